package heap_test

import (
	"testing"

	"cspcheck/api"
	"cspcheck/heap"
)

func TestNew(t *testing.T) {
	for _, most := range []int{1, 2, 100, api.MaxCells - 1, api.MaxCells} {
		wantSize(t, empty(t, most), 0)
	}
	for _, most := range []int{0, -1, api.MaxCells + 1, -api.MaxCells, 1 << 32, 1<<32 + 1, 1<<63 - 1, -1 << 63} {
		if h, err := heap.New(most); err != api.ErrInvalid || h != nil {
			t.Errorf("New(%d) is %v, error %d", most, h, err)
		}
	}
}

func TestHeapsAreIndependent(t *testing.T) {
	a, b := empty(t, 2), empty(t, 2)
	wantAlloc(t, a, data(1), 0)
	wantSize(t, b, 0)
	wantAlloc(t, b, data(2), 0)
	wantRead(t, a, 0, data(1), 0)
	wantRead(t, b, 0, data(2), 0)
}

func TestKindsOfNewCells(t *testing.T) {
	h := empty(t, 40)
	for r, kind := range append([]int{api.CellThunk}, upTo(api.CellData, api.CellData+15)...) {
		c := api.Cell{Kind: kind, Num: kind * 100}
		wantAlloc(t, h, c, r)
		wantRead(t, h, r, c, r)
	}
	for _, kind := range []int{0, api.CellHole, api.CellLink, api.CellData + 16, api.CellData + 17, 100, -1, -api.CellData, 1<<32 + api.CellThunk, 1<<63 - 1, -1 << 63} {
		wantNoAlloc(t, h, api.Cell{Kind: kind}, api.ErrInvalid)
		wantNoAlloc(t, h, api.Cell{Kind: kind, Refs: []int{0}}, api.ErrInvalid)
	}
}

func TestNumbersOfNewCells(t *testing.T) {
	numbers := []int{0, 1, -1, api.MaxCells, 1<<63 - 1, -1 << 63}
	h := empty(t, 20)
	for i, num := range numbers {
		wantAlloc(t, h, thunk(num), 2*i)
		wantAlloc(t, h, data(num), 2*i+1)
	}
	for i, num := range numbers {
		wantRead(t, h, 2*i, thunk(num), 2*i)
		wantRead(t, h, 2*i+1, data(num), 2*i+1)
	}
}

func TestRefsOfNewCells(t *testing.T) {
	for _, c := range []func(num int, refs ...int) api.Cell{thunk, data} {
		h := empty(t, 10)
		wantNoAlloc(t, h, c(0, 1), api.ErrInvalid)
		wantNoAlloc(t, h, c(0, -1), api.ErrInvalid)
		wantAlloc(t, h, c(0, 0), 0)
		wantAlloc(t, h, c(1, 0, 1, 0, 1), 1)
		for _, r := range missing(3) {
			wantNoAlloc(t, h, c(2, r), api.ErrInvalid)
			wantNoAlloc(t, h, c(2, 0, 1, r), api.ErrInvalid)
			wantNoAlloc(t, h, c(2, r, 0, 1), api.ErrInvalid)
		}
		wantAlloc(t, h, c(2, 2, 1, 0), 2)
		wantAlloc(t, h, c(3), 3)
		wantRead(t, h, 0, c(0, 0), 0)
		wantRead(t, h, 1, c(1, 0, 1, 0, 1), 1)
		wantRead(t, h, 2, c(2, 2, 1, 0), 2)
		wantRead(t, h, 3, c(3), 3)
	}
}

func TestMostRefsOfNewCells(t *testing.T) {
	h := empty(t, 10)
	wantAlloc(t, h, thunk(0, refs(4096, 0)...), 0)
	wantAlloc(t, h, data(0, refs(4096, 1)...), 1)
	wantRead(t, h, 0, thunk(0, refs(4096, 0)...), 0)
	wantRead(t, h, 1, data(0, refs(4096, 1)...), 1)
	for _, k := range []int{4097, 4098, api.MaxCells, 1 << 20} {
		wantNoAlloc(t, h, thunk(0, refs(k, 0)...), api.ErrInvalid)
		wantNoAlloc(t, h, data(0, refs(k, 0)...), api.ErrInvalid)
	}
}

func TestFullHeaps(t *testing.T) {
	for _, most := range []int{1, 2, 5} {
		h := empty(t, most)
		for r := range most {
			wantAlloc(t, h, data(r, upTo(0, r)...), r)
		}
		wantNoAlloc(t, h, data(0), api.ErrFull)
		wantNoAlloc(t, h, thunk(0), api.ErrFull)
		// The cell would have this number itself.
		wantNoAlloc(t, h, data(0, most), api.ErrFull)
		wantNoAlloc(t, h, data(0, most+1), api.ErrInvalid)
		wantNoAlloc(t, h, data(0, -1), api.ErrInvalid)
		wantNoAlloc(t, h, hole(0), api.ErrInvalid)
		wantNoAlloc(t, h, thunk(0, refs(4097, 0)...), api.ErrInvalid)
		for r := range most {
			wantRead(t, h, r, data(r, upTo(0, r)...), r)
		}
	}
}

func TestLargestHeap(t *testing.T) {
	h := empty(t, api.MaxCells)
	for r := range api.MaxCells {
		wantAlloc(t, h, data(r, r/2, r), r)
	}
	wantNoAlloc(t, h, data(0), api.ErrFull)
	wantSize(t, h, api.MaxCells)
	for r := range api.MaxCells {
		wantRead(t, h, r, data(r, r/2, r), r)
	}
}

func TestNewCellsShareNoMemory(t *testing.T) {
	h := with(t, data(0), data(1))
	l := []int{0, 1}
	wantAlloc(t, h, thunk(2, l...), 2)
	l[0], l[1] = 77, 78
	wantRead(t, h, 2, thunk(2, 0, 1), 2)
	wantReach(t, h, []int{2}, 0, 1, 2)
}
