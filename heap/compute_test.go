package heap_test

import (
	"testing"

	"cspcheck/api"
)

func TestExample(t *testing.T) {
	h := with(t, thunk(5))
	wantEnter(t, h, 0, thunk(5))
	wantNoEnter(t, h, 0, api.ErrLoop)
	wantAlloc(t, h, data(9), 1)
	wantUpdate(t, h, 0, 1, api.OK)
	wantRead(t, h, 0, data(9), 1)
}

func TestRead(t *testing.T) {
	h := with(t, data(0), thunk(1, 0), thunk(2, 0, 1), thunk(3, 2), thunk(4), thunk(5))
	wantRead(t, h, 2, thunk(2, 0, 1), 2)
	enter(t, h, 1, 3, 4)
	// A hole has no Refs, and keeps its number.
	wantRead(t, h, 1, hole(1), 1)
	wantRead(t, h, 3, hole(3), 3)
	link(t, h, 3, 4)
	link(t, h, 1, 3)
	wantRead(t, h, 1, hole(4), 4)
	wantRead(t, h, 3, hole(4), 4)
	link(t, h, 4, 2)
	for _, r := range []int{1, 2, 3, 4} {
		wantRead(t, h, r, thunk(2, 0, 1), 2)
	}
	enter(t, h, 5)
	link(t, h, 5, 0)
	wantRead(t, h, 5, data(0), 0)
	wantRead(t, h, 0, data(0), 0)
}

func TestReadOfNoCell(t *testing.T) {
	for _, size := range []int{0, 1, 3} {
		h := with(t, []api.Cell{data(0), thunk(1, 0), data(2)}[:size]...)
		for _, r := range missing(size) {
			if c, at, err := h.Read(r); err != api.ErrNotFound || !equal(c, api.Cell{}) || at != 0 {
				t.Errorf("Read(%d) is %s at %d, error %d", r, text(c), at, err)
			}
			wantNoEnter(t, h, r, api.ErrNotFound)
		}
	}
}

func TestReadSharesNoMemory(t *testing.T) {
	h := with(t, data(0), thunk(1, 0, 1), thunk(2, 0))
	enter(t, h, 2)
	link(t, h, 2, 1)
	for range 2 {
		for _, r := range []int{1, 2} {
			c, _, _ := h.Read(r)
			c.Refs[0] = 77
			wantRead(t, h, r, thunk(1, 0, 1), 1)
		}
	}
	wantReach(t, h, []int{2}, 0, 1, 2)
}

func TestEnter(t *testing.T) {
	h := with(t, data(0), thunk(1, 0, 1), thunk(2, 1, 1, 0), thunk(3))
	wantEnter(t, h, 2, thunk(2, 1, 1, 0))
	wantRead(t, h, 2, hole(2), 2)
	wantNoEnter(t, h, 2, api.ErrLoop)
	wantNoEnter(t, h, 0, api.ErrState)
	wantRead(t, h, 2, hole(2), 2)
	// Enter follows links: the thunk 1 becomes a hole, and the link 2 remains one.
	link(t, h, 2, 1)
	wantEnter(t, h, 2, thunk(1, 0, 1))
	wantRead(t, h, 1, hole(1), 1)
	wantRead(t, h, 2, hole(1), 1)
	wantNoEnter(t, h, 2, api.ErrLoop)
	link(t, h, 1, 0)
	wantNoEnter(t, h, 1, api.ErrState)
	wantNoEnter(t, h, 2, api.ErrState)
	wantRead(t, h, 3, thunk(3), 3)
}

func TestEnterOfData(t *testing.T) {
	for _, kind := range upTo(api.CellData, api.CellData+15) {
		c := api.Cell{Kind: kind, Num: 4, Refs: []int{0}}
		h := with(t, c)
		wantNoEnter(t, h, 0, api.ErrState)
		wantRead(t, h, 0, c, 0)
	}
}

func TestEnteredCellsShareNoMemory(t *testing.T) {
	h := with(t, data(0), thunk(1, 0, 1))
	c, _ := h.Enter(1)
	wantRestore(t, h, 1, c, api.OK)
	c.Refs[0], c.Refs[1] = 77, 78
	wantRead(t, h, 1, thunk(1, 0, 1), 1)
	wantEnter(t, h, 1, thunk(1, 0, 1))
}

func TestUpdate(t *testing.T) {
	h := with(t, data(0), thunk(1), thunk(2), thunk(3, 1), thunk(4))
	enter(t, h, 1, 2, 4)
	link(t, h, 1, 0)
	// A hole may become a link to a link, a thunk or a hole, and to a later cell.
	link(t, h, 2, 1)
	link(t, h, 4, 3)
	wantRead(t, h, 1, data(0), 0)
	wantRead(t, h, 2, data(0), 0)
	wantRead(t, h, 4, thunk(3, 1), 3)
	wantReach(t, h, []int{2}, 0, 1, 2)
	wantReach(t, h, []int{4}, 0, 1, 3, 4)
	// The thunk that is linked has not been started.
	wantEnter(t, h, 4, thunk(3, 1))
	link(t, h, 3, 2)
	wantRead(t, h, 4, data(0), 0)
}

func TestUpdateToNoCell(t *testing.T) {
	h := with(t, data(0), thunk(1), thunk(2), thunk(3))
	enter(t, h, 2, 3)
	link(t, h, 3, 2)
	for _, r := range missing(4) {
		for cell := range 4 {
			wantUpdate(t, h, cell, r, api.ErrNotFound)
			wantUpdate(t, h, r, cell, api.ErrNotFound)
		}
		wantUpdate(t, h, r, r, api.ErrNotFound)
	}
	wantRead(t, h, 2, hole(2), 2)
}

func TestUpdateOfOtherCells(t *testing.T) {
	h := with(t, data(0), thunk(1), thunk(2), thunk(3))
	enter(t, h, 2, 3)
	link(t, h, 3, 2)
	for to := range 4 {
		wantUpdate(t, h, 0, to, api.ErrState)
		wantUpdate(t, h, 1, to, api.ErrState)
		// A link to a hole is not a hole.
		wantUpdate(t, h, 3, to, api.ErrState)
	}
	wantRead(t, h, 0, data(0), 0)
	wantRead(t, h, 1, thunk(1), 1)
	wantRead(t, h, 3, hole(2), 2)
}

func TestUpdateThatWouldMakeACycle(t *testing.T) {
	h := with(t, thunk(0), thunk(1), thunk(2), thunk(3), data(4, 0))
	enter(t, h, 0, 1, 2, 3)
	wantUpdate(t, h, 0, 0, api.ErrLoop)
	link(t, h, 1, 0)
	wantUpdate(t, h, 0, 1, api.ErrLoop)
	link(t, h, 3, 1)
	wantUpdate(t, h, 0, 3, api.ErrLoop)
	wantRead(t, h, 0, hole(0), 0)
	link(t, h, 0, 2)
	for _, to := range upTo(0, 3) {
		wantUpdate(t, h, 2, to, api.ErrLoop)
	}
	// The data refer to the links, but Read does not go on from data.
	wantUpdate(t, h, 2, 4, api.OK)
	for _, r := range upTo(0, 4) {
		wantRead(t, h, r, data(4, 0), 4)
	}
}

func TestRestore(t *testing.T) {
	h := with(t, data(0), thunk(1, 0), thunk(2, 0), thunk(3))
	enter(t, h, 1, 2)
	link(t, h, 2, 1)
	wantRestore(t, h, 1, thunk(1, 0), api.OK)
	wantRead(t, h, 1, thunk(1, 0), 1)
	wantRead(t, h, 2, thunk(1, 0), 1)
	wantEnter(t, h, 2, thunk(1, 0))
	// Another thunk, which refers to itself and to later cells.
	wantRestore(t, h, 1, thunk(7, 3, 1, 2), api.OK)
	wantRead(t, h, 2, thunk(7, 3, 1, 2), 1)
	wantReach(t, h, []int{1}, 1, 2, 3)
	wantEnter(t, h, 1, thunk(7, 3, 1, 2))
	wantRestore(t, h, 1, thunk(-5), api.OK)
	wantRead(t, h, 1, thunk(-5), 1)
}

func TestRestoreOfOtherCells(t *testing.T) {
	h := with(t, data(0), thunk(1), thunk(2), thunk(3))
	enter(t, h, 2, 3)
	link(t, h, 3, 2)
	for _, c := range []api.Cell{thunk(9), thunk(9, 0), data(9), thunk(9, -1), {}} {
		for _, r := range missing(4) {
			wantRestore(t, h, r, c, api.ErrNotFound)
		}
		wantRestore(t, h, 0, c, api.ErrState)
		wantRestore(t, h, 1, c, api.ErrState)
		// A link to a hole is not a hole.
		wantRestore(t, h, 3, c, api.ErrState)
	}
	wantRead(t, h, 0, data(0), 0)
	wantRead(t, h, 1, thunk(1), 1)
	wantRead(t, h, 3, hole(2), 2)
}

func TestRestoreOfNoThunk(t *testing.T) {
	h := with(t, data(0), thunk(1), data(2))
	enter(t, h, 1)
	for _, kind := range []int{0, api.CellHole, api.CellLink, api.CellData, api.CellData + 15, api.CellData + 16, -1, 1<<32 + api.CellThunk} {
		wantRestore(t, h, 1, api.Cell{Kind: kind}, api.ErrInvalid)
		wantRestore(t, h, 1, api.Cell{Kind: kind, Refs: []int{0}}, api.ErrInvalid)
	}
	for _, r := range missing(3) {
		wantRestore(t, h, 1, thunk(0, r), api.ErrInvalid)
		wantRestore(t, h, 1, thunk(0, 0, 1, r), api.ErrInvalid)
		wantRestore(t, h, 1, thunk(0, r, 0), api.ErrInvalid)
	}
	wantRestore(t, h, 1, thunk(0, refs(4097, 0)...), api.ErrInvalid)
	wantRestore(t, h, 1, thunk(0, refs(1<<20, 0)...), api.ErrInvalid)
	wantRead(t, h, 1, hole(1), 1)
	wantRestore(t, h, 1, thunk(8, refs(4096, 2)...), api.OK)
	wantRead(t, h, 1, thunk(8, refs(4096, 2)...), 1)
}

func TestRestoredCellsShareNoMemory(t *testing.T) {
	h := with(t, data(0), thunk(1))
	enter(t, h, 1)
	l := []int{0, 1}
	wantRestore(t, h, 1, thunk(1, l...), api.OK)
	l[0], l[1] = 77, 78
	wantRead(t, h, 1, thunk(1, 0, 1), 1)
}

func TestFullHeapsCompute(t *testing.T) {
	h := empty(t, 2)
	wantAlloc(t, h, data(0), 0)
	wantAlloc(t, h, thunk(1, 0), 1)
	wantEnter(t, h, 1, thunk(1, 0))
	wantRestore(t, h, 1, thunk(1, 1), api.OK)
	wantEnter(t, h, 1, thunk(1, 1))
	wantUpdate(t, h, 1, 0, api.OK)
	wantRead(t, h, 1, data(0), 0)
}
