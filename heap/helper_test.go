package heap_test

import (
	"fmt"
	"slices"
	"testing"

	"cspcheck/api"
	"cspcheck/heap"
)

func thunk(num int, refs ...int) api.Cell {
	return api.Cell{Kind: api.CellThunk, Num: num, Refs: refs}
}

func hole(num int) api.Cell { return api.Cell{Kind: api.CellHole, Num: num} }

func data(num int, refs ...int) api.Cell {
	return api.Cell{Kind: api.CellData, Num: num, Refs: refs}
}

// refs returns k times the number of a cell.
func refs(k, r int) []int { return slices.Repeat([]int{r}, k) }

// upTo returns the numbers from a to b.
func upTo(a, b int) []int {
	var l []int
	for r := a; r <= b; r++ {
		l = append(l, r)
	}
	return l
}

// text returns a cell as a short text.
func text(c api.Cell) string {
	if len(c.Refs) > 20 {
		return fmt.Sprintf("kind %d, number %d, %d refs %v..", c.Kind, c.Num, len(c.Refs), c.Refs[:20])
	}
	return fmt.Sprintf("kind %d, number %d, refs %v", c.Kind, c.Num, c.Refs)
}

func equal(a, b api.Cell) bool {
	return a.Kind == b.Kind && a.Num == b.Num && slices.Equal(a.Refs, b.Refs)
}

// empty returns an empty heap.
func empty(t *testing.T, most int) *heap.Heap {
	t.Helper()
	h, err := heap.New(most)
	if err != api.OK || h == nil {
		t.Fatalf("New(%d) is error %d", most, err)
	}
	return h
}

// with returns a heap of these cells, in which there is room for one more.
func with(t *testing.T, cells ...api.Cell) *heap.Heap {
	t.Helper()
	h := empty(t, len(cells)+1)
	for r, c := range cells {
		wantAlloc(t, h, c, r)
	}
	return h
}

// enter makes thunks holes.
func enter(t *testing.T, h *heap.Heap, l ...int) {
	t.Helper()
	for _, r := range l {
		if _, err := h.Enter(r); err != api.OK {
			t.Fatalf("Enter(%d) is error %d", r, err)
		}
	}
}

// link makes a hole a link.
func link(t *testing.T, h *heap.Heap, r, to int) {
	t.Helper()
	if err := h.Update(r, to); err != api.OK {
		t.Fatalf("Update(%d, %d) is error %d", r, to, err)
	}
}

func wantAlloc(t *testing.T, h *heap.Heap, c api.Cell, want int) {
	t.Helper()
	if r, err := h.Alloc(c); err != api.OK || r != want {
		t.Fatalf("Alloc(%s) is %d, error %d, want %d", text(c), r, err, want)
	}
}

func wantNoAlloc(t *testing.T, h *heap.Heap, c api.Cell, want api.Errno) {
	t.Helper()
	size := h.Size()
	if r, err := h.Alloc(c); err != want || r != 0 {
		t.Errorf("Alloc(%s) is %d, error %d, want error %d", text(c), r, err, want)
	}
	wantSize(t, h, size)
}

func wantSize(t *testing.T, h *heap.Heap, want int) {
	t.Helper()
	if got := h.Size(); got != want {
		t.Errorf("the size is %d, want %d", got, want)
	}
}

func wantRead(t *testing.T, h *heap.Heap, r int, want api.Cell, at int) {
	t.Helper()
	if c, found, err := h.Read(r); err != api.OK || !equal(c, want) || found != at {
		t.Errorf("Read(%d) is %s at %d, error %d, want %s at %d", r, text(c), found, err, text(want), at)
	}
}

func wantEnter(t *testing.T, h *heap.Heap, r int, want api.Cell) {
	t.Helper()
	if c, err := h.Enter(r); err != api.OK || !equal(c, want) {
		t.Errorf("Enter(%d) is %s, error %d, want %s", r, text(c), err, text(want))
	}
}

func wantNoEnter(t *testing.T, h *heap.Heap, r int, want api.Errno) {
	t.Helper()
	if c, err := h.Enter(r); err != want || !equal(c, api.Cell{}) {
		t.Errorf("Enter(%d) is %s, error %d, want error %d", r, text(c), err, want)
	}
}

func wantUpdate(t *testing.T, h *heap.Heap, r, to int, want api.Errno) {
	t.Helper()
	if err := h.Update(r, to); err != want {
		t.Errorf("Update(%d, %d) is error %d, want %d", r, to, err, want)
	}
}

func wantRestore(t *testing.T, h *heap.Heap, r int, c api.Cell, want api.Errno) {
	t.Helper()
	if err := h.Restore(r, c); err != want {
		t.Errorf("Restore(%d, %s) is error %d, want %d", r, text(c), err, want)
	}
}

func wantReach(t *testing.T, h *heap.Heap, roots []int, want ...int) {
	t.Helper()
	if got := h.Reach(roots); !slices.Equal(got, want) {
		t.Errorf("Reach(%v) is %v, want %v", roots, got, want)
	}
}

// wantCompact requires the new numbers of the roots and then the cells of the heap.
func wantCompact(t *testing.T, h *heap.Heap, roots, want []int, cells ...api.Cell) {
	t.Helper()
	if got := h.Compact(roots); !slices.Equal(got, want) {
		t.Errorf("Compact(%v) is %v, want %v", roots, got, want)
	}
	wantSize(t, h, len(cells))
	for r, c := range cells {
		wantRead(t, h, r, c, r)
	}
}

// missing returns numbers of no cell of a heap of this size.
func missing(size int) []int {
	return []int{size, size + 1, -1, -size - 1, api.MaxCells, 1 << 32, 1<<63 - 1, -1 << 63}
}
