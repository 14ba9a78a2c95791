package heap_test

import (
	"slices"
	"testing"

	"cspcheck/api"
	"cspcheck/heap"
)

// holes returns a heap of as many cells as there may be, the first of which are data and the others holes.
func holes(t *testing.T, first int) *heap.Heap {
	t.Helper()
	h := empty(t, api.MaxCells)
	for r := range api.MaxCells {
		if r < first {
			wantAlloc(t, h, data(r), r)
		} else {
			wantAlloc(t, h, thunk(r), r)
			enter(t, h, r)
		}
	}
	return h
}

func TestLongestChainOfLinks(t *testing.T) {
	h := holes(t, 1)
	for r := 1; r < api.MaxCells; r++ {
		link(t, h, r, r-1)
	}
	last := api.MaxCells - 1
	wantReach(t, h, []int{last}, upTo(0, last)...)
	for r := range api.MaxCells {
		wantRead(t, h, r, data(0), 0)
		wantNoEnter(t, h, r, api.ErrState)
	}
	wantReach(t, h, []int{last}, upTo(0, last)...)
	wantReach(t, h, []int{5}, upTo(0, 5)...)
	wantCompact(t, h, []int{last, 0, 7}, []int{0, 0, 0}, data(0))
}

func TestLongestChainThatEndsWithAHole(t *testing.T) {
	h := holes(t, 0)
	last := api.MaxCells - 1
	for r := range last {
		link(t, h, r, r+1)
	}
	for r := range api.MaxCells {
		wantUpdate(t, h, last, r, api.ErrLoop)
		wantNoEnter(t, h, r, api.ErrLoop)
		wantRead(t, h, r, hole(last), last)
	}
	wantRestore(t, h, last, thunk(7, 0), api.OK)
	wantReach(t, h, []int{last}, upTo(0, last)...)
	wantCompact(t, h, []int{5}, []int{0}, thunk(7, 0))
}

func TestChainsThatAreJoined(t *testing.T) {
	// The end of each chain becomes a link to the end of the chain before it.
	h := holes(t, 1)
	last := api.MaxCells - 1
	for width := 1; width <= last; width *= 2 {
		for r := width; r <= last; r += 2 * width {
			link(t, h, r, r-width)
		}
	}
	for r := range api.MaxCells {
		wantRead(t, h, r, data(0), 0)
	}
	wantReach(t, h, []int{last}, chain(last)...)
}

// chain returns the number r and what remains of it when its lowest bits are removed one after another.
func chain(r int) []int {
	l := []int{r}
	for ; r > 0; r &= r - 1 {
		l = append(l, r&(r-1))
	}
	slices.Reverse(l)
	return l
}

func TestDeepestRefs(t *testing.T) {
	h := empty(t, api.MaxCells)
	last := api.MaxCells - 1
	for r := range api.MaxCells {
		wantAlloc(t, h, data(r, max(r-1, 0)), r)
	}
	wantReach(t, h, []int{last}, upTo(0, last)...)
	wantReach(t, h, []int{0}, 0)
	var cells []api.Cell
	for r := range last {
		cells = append(cells, data(r, max(r-1, 0)))
	}
	wantCompact(t, h, []int{last - 1, last + 1}, []int{last - 1, -1}, cells...)
}

func TestManyRefs(t *testing.T) {
	h := empty(t, api.MaxCells)
	for r := range 3000 {
		wantAlloc(t, h, data(r, refs(4096, r)...), r)
	}
	wantReach(t, h, refs(1<<20, 2999), 2999)
	if l := h.Compact(refs(1<<20, 2999)); !slices.Equal(l, refs(1<<20, 0)) {
		t.Error("Compact does not return 0 for each root")
	}
	wantRead(t, h, 0, data(2999, refs(4096, 0)...), 0)
}
