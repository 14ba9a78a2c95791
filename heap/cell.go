package heap

import (
	"slices"

	"cspcheck/api"
)

const (
	// maxRefs is the greatest number of Refs of a cell.
	maxRefs  = 4096
	lastData = api.CellData + 15
)

// cell is a cell of a heap. In a link, ahead is a cell that its links lead to, not always the next one: a chain of links has up to MaxCells of them, too many to go through them all each time.
type cell struct {
	api.Cell
	ahead int
}

// isNew reports whether a new cell may have this kind.
func isNew(kind int) bool {
	return kind == api.CellThunk || kind >= api.CellData && kind <= lastData
}

// validRefs reports whether refs are not too many, and numbers of the first size cells.
func validRefs(refs []int, size int) bool {
	if len(refs) > maxRefs {
		return false
	}
	for _, r := range refs {
		if r < 0 || r >= size {
			return false
		}
	}
	return true
}

// copied returns a cell that shares no memory with c.
func copied(c api.Cell) api.Cell {
	c.Refs = slices.Clone(c.Refs)
	return c
}

func (h *Heap) has(r int) bool {
	return r >= 0 && r < len(h.cells)
}

func (h *Heap) isHole(r int) bool {
	return h.cells[r].Kind == api.CellHole
}

func (h *Heap) isLink(r int) bool {
	return h.cells[r].Kind == api.CellLink
}

// find returns the number of the first cell that is no link, starting with r and following links. On its way it lets the links lead further ahead, so that later searches are short.
func (h *Heap) find(r int) int {
	for h.isLink(r) {
		next := h.cells[r].ahead
		if h.isLink(next) {
			next = h.cells[next].ahead
			h.cells[r].ahead = next
		}
		r = next
	}
	return r
}

// keep removes all cells but those of the ascending list kept, which refer to each other only and are no links, and renumbers these. It returns their new numbers by their old ones.
func (h *Heap) keep(kept []int) []int {
	numbers := make([]int, len(h.cells))
	cells := make([]cell, len(kept))
	for i, r := range kept {
		numbers[r] = i
		cells[i] = h.cells[r]
	}
	for _, c := range cells {
		for i, r := range c.Refs {
			c.Refs[i] = numbers[r]
		}
	}
	h.cells = cells
	return numbers
}
