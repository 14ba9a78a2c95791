package heap_test

import (
	"slices"

	"cspcheck/api"
)

// oracle is a second implementation of the chapter, which follows its sentences and looks through all cells each time.
type oracle struct {
	most  int
	cells []api.Cell
}

func (o *oracle) exists(r int) bool { return slices.Contains(upTo(0, len(o.cells)-1), r) }

func (o *oracle) kind(r int) int { return o.cells[r].Kind }

func (o *oracle) alloc(c api.Cell) (int, api.Errno) {
	kinds := append(upTo(api.CellData, api.CellData+15), api.CellThunk)
	numbers := upTo(0, len(o.cells))
	if !slices.Contains(kinds, c.Kind) || len(c.Refs) > 4096 || slices.ContainsFunc(c.Refs, func(r int) bool { return !slices.Contains(numbers, r) }) {
		return 0, api.ErrInvalid
	}
	if len(o.cells) == o.most {
		return 0, api.ErrFull
	}
	o.cells = append(o.cells, api.Cell{Kind: c.Kind, Num: c.Num, Refs: slices.Clone(c.Refs)})
	return len(o.cells) - 1, api.OK
}

// found returns what Read finds for a cell that exists.
func (o *oracle) found(r int) int {
	if o.kind(r) == api.CellLink {
		return o.found(o.cells[r].Refs[0])
	}
	return r
}

func (o *oracle) read(r int) (api.Cell, int, api.Errno) {
	if !o.exists(r) {
		return api.Cell{}, 0, api.ErrNotFound
	}
	return o.cells[o.found(r)], o.found(r), api.OK
}

func (o *oracle) enter(r int) (api.Cell, api.Errno) {
	c, at, err := o.read(r)
	switch {
	case err != api.OK:
		return api.Cell{}, err
	case c.Kind == api.CellThunk:
		o.cells[at] = hole(c.Num)
		return c, api.OK
	case c.Kind == api.CellHole:
		return api.Cell{}, api.ErrLoop
	default:
		return api.Cell{}, api.ErrState
	}
}

func (o *oracle) update(r, to int) api.Errno {
	switch {
	case !o.exists(r) || !o.exists(to):
		return api.ErrNotFound
	case o.kind(r) != api.CellHole:
		return api.ErrState
	case o.found(to) == r:
		return api.ErrLoop
	}
	o.cells[r] = api.Cell{Kind: api.CellLink, Num: o.cells[r].Num, Refs: []int{to}}
	return api.OK
}

func (o *oracle) restore(r int, c api.Cell) api.Errno {
	switch {
	case !o.exists(r):
		return api.ErrNotFound
	case o.kind(r) != api.CellHole:
		return api.ErrState
	case c.Kind != api.CellThunk || len(c.Refs) > 4096 || slices.ContainsFunc(c.Refs, func(r int) bool { return !o.exists(r) }):
		return api.ErrInvalid
	}
	o.cells[r] = api.Cell{Kind: c.Kind, Num: c.Num, Refs: slices.Clone(c.Refs)}
	return api.OK
}

// reach adds cells that a cell of the list refers to until there are none any more.
func (o *oracle) reach(roots []int) []int {
	l := slices.DeleteFunc(upTo(0, len(o.cells)-1), func(r int) bool { return !slices.Contains(roots, r) })
	for before := -1; before != len(l); {
		before = len(l)
		for _, r := range l {
			l = append(l, o.cells[r].Refs...)
		}
		slices.Sort(l)
		l = slices.Compact(l)
	}
	return l
}

func (o *oracle) compact(roots []int) []int {
	replaced := func(l []int) []int {
		var out []int
		for _, r := range l {
			if o.exists(r) {
				r = o.found(r)
			}
			out = append(out, r)
		}
		return out
	}
	next := &oracle{most: o.most}
	for _, c := range o.cells {
		next.cells = append(next.cells, api.Cell{Kind: c.Kind, Num: c.Num, Refs: replaced(c.Refs)})
	}
	kept := next.reach(replaced(roots))
	renumbered := func(l []int) []int {
		var out []int
		for _, r := range l {
			out = append(out, slices.Index(kept, r))
		}
		return out
	}
	numbers := renumbered(replaced(roots))
	o.cells = nil
	for _, r := range kept {
		c := next.cells[r]
		o.cells = append(o.cells, api.Cell{Kind: c.Kind, Num: c.Num, Refs: renumbered(c.Refs)})
	}
	return numbers
}
