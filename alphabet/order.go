package alphabet

import (
	"cmp"
	"slices"

	"cspcheck/api"
)

// ValidOrder reports whether l is an order: pairs of different visible events, ascending and transitively closed.
func ValidOrder(l []api.Above) bool {
	for _, p := range l {
		if p.Low == p.High || !visible(p.Low) || !visible(p.High) {
			return false
		}
	}
	inOrder := ascending(l, func(p, q api.Above) int {
		return cmp.Or(cmp.Compare(p.Low, q.Low), cmp.Compare(p.High, q.High))
	})
	return inOrder && ordered(l).transitive()
}

// Close returns the smallest order that contains the pairs of l.
func Close(l []api.Above) ([]api.Above, api.Errno) {
	for _, p := range l {
		if !visible(p.Low) || !visible(p.High) {
			return nil, api.ErrInvalid
		}
	}
	t := ordered(l)
	t.close()
	var closed []api.Above
	for low, high := range t.pairs() {
		if low == high {
			return nil, api.ErrLoop
		}
		closed = append(closed, api.Above{Low: low, High: high})
	}
	return closed, api.OK
}

// Keep returns the events over which no other one of them takes priority in the order l, or all events if l is not an order.
func Keep(l []api.Above, events []int) []int {
	if !ValidOrder(l) {
		return slices.Clone(events)
	}
	var offered row
	for _, e := range events {
		if visible(e) {
			offered.add(e)
		}
	}
	// Tau and Tick take priority also over an event whose greater events are not offered.
	internal := Has(events, api.Tau) || Has(events, api.Tick)
	var lower row
	for _, p := range l {
		if internal || offered.has(p.High) {
			lower.add(p.Low)
		}
	}
	var kept []int
	for _, e := range events {
		if !visible(e) || !lower.has(e) {
			kept = append(kept, e)
		}
	}
	return kept
}

// ordered returns the table of the pairs of visible events of l.
func ordered(l []api.Above) *table {
	t := &table{}
	for _, p := range l {
		t.add(p.Low, p.High)
	}
	return t
}
