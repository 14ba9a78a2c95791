package heap_test

import (
	"slices"
	"testing"

	"cspcheck/api"
)

func TestReach(t *testing.T) {
	h := with(t, data(0), thunk(1, 0), data(2, 2, 1, 1), thunk(3), data(4, 3, 3), thunk(5, 5))
	wantReach(t, h, nil)
	wantReach(t, h, []int{0}, 0)
	wantReach(t, h, []int{1}, 0, 1)
	wantReach(t, h, []int{2}, 0, 1, 2)
	wantReach(t, h, []int{4, 1}, 0, 1, 3, 4)
	wantReach(t, h, []int{5, 4, 0, 5, 4, 0}, 0, 3, 4, 5)
	wantReach(t, h, upTo(0, 5), upTo(0, 5)...)
	wantSize(t, h, 6)
}

func TestReachFromNoCell(t *testing.T) {
	h := with(t, data(0), thunk(1, 0), data(2))
	wantReach(t, h, missing(3))
	wantReach(t, h, slices.Concat(missing(3), []int{1}, missing(3)), 0, 1)
	wantReach(t, empty(t, 5), []int{0, 1, -1})
}

func TestReachThroughLinksAndHoles(t *testing.T) {
	h := with(t, data(0), thunk(1, 0), thunk(2, 1), thunk(3, 2), data(4, 3))
	enter(t, h, 2)
	// The hole no longer refers to the thunk 1.
	wantReach(t, h, []int{4}, 2, 3, 4)
	wantReach(t, h, []int{2}, 2)
	wantRestore(t, h, 2, thunk(2, 4), api.OK)
	wantReach(t, h, []int{2}, 2, 3, 4)
	enter(t, h, 2, 1)
	link(t, h, 2, 1)
	wantReach(t, h, []int{4}, 1, 2, 3, 4)
	link(t, h, 1, 0)
	wantReach(t, h, []int{4}, 0, 1, 2, 3, 4)
	wantReach(t, h, []int{2}, 0, 1, 2)
	// What Read has found does not leave out the link between.
	wantRead(t, h, 2, data(0), 0)
	wantReach(t, h, []int{2}, 0, 1, 2)
}

func TestReachAfterCyclesOfRefs(t *testing.T) {
	h := with(t, thunk(0), thunk(1, 0), thunk(2, 1), data(3, 2, 3), data(4, 3))
	enter(t, h, 0)
	wantRestore(t, h, 0, thunk(0, 2), api.OK)
	for r := range 3 {
		wantReach(t, h, []int{r}, 0, 1, 2)
	}
	wantReach(t, h, []int{4}, 0, 1, 2, 3, 4)
	enter(t, h, 1)
	link(t, h, 1, 3)
	for _, r := range []int{1, 2, 3} {
		wantReach(t, h, []int{r}, 1, 2, 3)
	}
	wantReach(t, h, []int{0}, 0, 1, 2, 3)
}

func TestReachSharesNoMemory(t *testing.T) {
	h := with(t, data(0), thunk(1, 0))
	roots := []int{1, 0, 1}
	l := h.Reach(roots)
	l[0], l[1] = 77, 78
	wantReach(t, h, roots, 0, 1)
	if !slices.Equal(roots, []int{1, 0, 1}) {
		t.Errorf("the roots have become %v", roots)
	}
}
