package heap_test

import (
	"slices"
	"testing"

	"cspcheck/api"
)

func TestCompactRemovesCells(t *testing.T) {
	h := with(t, data(0), data(1), data(2, 0), thunk(3, 1), thunk(4, 4, 2, 0))
	wantCompact(t, h, []int{4}, []int{2}, data(0), data(2, 0), thunk(4, 2, 1, 0))
	wantCompact(t, h, []int{1}, []int{1}, data(0), data(2, 0))
	wantCompact(t, h, []int{0}, []int{0}, data(0))
	wantCompact(t, h, nil, nil)
	wantCompact(t, h, []int{0}, []int{-1})
}

func TestCompactRenumbersRoots(t *testing.T) {
	cells := []api.Cell{data(0), data(1), data(2, 0), thunk(3, 1), thunk(4, 2)}
	wantCompact(t, with(t, cells...), []int{4, 3, 2, 1, 0}, []int{4, 3, 2, 1, 0}, cells...)
	wantCompact(t, with(t, cells...), []int{3, 1, 3, 3}, []int{1, 0, 1, 1}, data(1), thunk(3, 0))
	wantCompact(t, with(t, cells...), []int{-1, 3, 5, 2, -1 << 63}, []int{-1, 3, -1, 2, -1}, data(0), data(1), data(2, 0), thunk(3, 1))
	wantCompact(t, with(t, cells...), missing(5), refs(len(missing(5)), -1))
}

func TestCompactReplacesLinks(t *testing.T) {
	h := with(t, data(0), thunk(1), thunk(2), data(3, 2, 0, 1), thunk(4), thunk(5, 4), data(6, 4))
	enter(t, h, 1, 2, 4)
	link(t, h, 1, 0)
	link(t, h, 2, 1)
	link(t, h, 4, 6)
	// The links 1, 2 and 4 go, and the thunk 5 refers to a later cell then.
	wantCompact(t, h, []int{2, 3, 1, 5, 4, 6}, []int{0, 1, 0, 2, 3, 3}, data(0), data(3, 0, 0, 0), thunk(5, 3), data(6, 3))
	wantReach(t, h, []int{2}, 2, 3)
}

func TestCompactKeepsThunksAndHoles(t *testing.T) {
	h := with(t, data(0), data(1), thunk(2, 1), thunk(3, 0, 1), thunk(4), data(5, 3, 4, 2), api.Cell{Kind: api.CellData + 15, Num: -6, Refs: []int{5}})
	enter(t, h, 3, 4)
	link(t, h, 4, 3)
	last := api.Cell{Kind: api.CellData + 15, Num: -6, Refs: []int{3}}
	// The hole 3 no longer refers to the data 0, and the link 4 leads to the hole.
	wantCompact(t, h, []int{6}, []int{4}, data(1), thunk(2, 0), hole(3), data(5, 2, 2, 1), last)
	wantNoEnter(t, h, 2, api.ErrLoop)
	wantUpdate(t, h, 2, 2, api.ErrLoop)
	link(t, h, 2, 1)
	wantEnter(t, h, 2, thunk(2, 0))
	wantRestore(t, h, 1, thunk(2, 4), api.OK)
	wantCompact(t, h, []int{2}, []int{0}, thunk(2, 2), data(5, 0, 0, 0), api.Cell{Kind: api.CellData + 15, Num: -6, Refs: []int{1}})
}

func TestCompactTwice(t *testing.T) {
	h := with(t, data(0), data(1), thunk(2, 1), thunk(3), data(4, 3, 2, 4), data(5))
	enter(t, h, 3)
	link(t, h, 3, 1)
	cells := []api.Cell{data(1), thunk(2, 0), data(4, 0, 1, 2)}
	wantCompact(t, h, []int{4, 9, 3}, []int{2, -1, 0}, cells...)
	wantCompact(t, h, []int{2, -1, 0}, []int{2, -1, 0}, cells...)
}

func TestCompactMakesRoom(t *testing.T) {
	h := empty(t, 3)
	for r := range 3 {
		wantAlloc(t, h, data(r), r)
	}
	wantNoAlloc(t, h, data(3), api.ErrFull)
	wantCompact(t, h, []int{2}, []int{0}, data(2))
	wantNoAlloc(t, h, thunk(3, 2), api.ErrInvalid)
	wantAlloc(t, h, thunk(3, 0, 1), 1)
	wantAlloc(t, h, thunk(4, 2), 2)
	wantNoAlloc(t, h, data(5), api.ErrFull)
	wantRead(t, h, 0, data(2), 0)
	wantRead(t, h, 1, thunk(3, 0, 1), 1)
	wantCompact(t, h, nil, nil)
	for r := range 3 {
		wantAlloc(t, h, thunk(r, r), r)
	}
	wantNoAlloc(t, h, data(3), api.ErrFull)
}

func TestNumbersOfRemovedCellsAreOfNoCell(t *testing.T) {
	h := with(t, data(0), thunk(1), thunk(2))
	enter(t, h, 1, 2)
	wantCompact(t, h, []int{1}, []int{0}, hole(1))
	wantUpdate(t, h, 0, 1, api.ErrNotFound)
	wantUpdate(t, h, 1, 0, api.ErrNotFound)
	wantRestore(t, h, 1, thunk(0), api.ErrNotFound)
	wantRestore(t, h, 0, thunk(0, 1), api.ErrInvalid)
	wantNoEnter(t, h, 1, api.ErrNotFound)
	wantReach(t, h, []int{0, 1, 2}, 0)
}

func TestCompactSharesNoMemory(t *testing.T) {
	l := []int{0, 1}
	h := with(t, data(0), data(1), data(2))
	wantAlloc(t, h, thunk(3, l...), 3)
	before, _, _ := h.Read(3)
	roots := []int{3, 9, 3}
	numbers := h.Compact(roots)
	if !slices.Equal(roots, []int{3, 9, 3}) || !slices.Equal(l, []int{0, 1}) || !equal(before, thunk(3, 0, 1)) {
		t.Errorf("the roots have become %v, the refs %v, the cell %s", roots, l, text(before))
	}
	numbers[0] = 77
	h.Compact([]int{2, 1})
	if !equal(before, thunk(3, 0, 1)) {
		t.Errorf("the cell has become %s", text(before))
	}
	wantRead(t, h, 2, thunk(3, 0, 1), 2)
}
