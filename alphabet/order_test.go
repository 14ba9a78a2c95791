package alphabet_test

import (
	"testing"

	"cspcheck/alphabet"
	"cspcheck/api"
)

func TestOrders(t *testing.T) {
	for _, l := range [][]api.Above{
		nil, {}, above(2, 3), above(3, 2), above(first, last), above(last, first),
		above(2, 3, 2, 4), above(2, 4, 3, 4), above(2, 3, 2, 4, 3, 4), above(2, 9, 3, 2, 3, 9), above(2, 3, 4, 5),
		above(2, 3, 2, 4, 2, 5, 3, 4, 3, 5, 4, 5),
	} {
		wantBool(t, "ValidOrder of "+shown(l), alphabet.ValidOrder(l), true)
		wantClose(t, l, l)
	}
}

func TestListsThatAreNotOrders(t *testing.T) {
	for _, l := range [][]api.Above{
		// Not ascending, or with duplicates.
		above(3, 4, 2, 4), above(2, 4, 2, 3), above(2, 3, 2, 3), above(2, 3, 2, 4, 2, 3),
		// Not transitive.
		above(2, 3, 3, 4), above(3, 4, 4, 2), above(2, 3, 2, 4, 2, 5, 3, 4, 4, 5), above(2, 3, 2, 5, 3, 4, 3, 5, 4, 5),
	} {
		wantNoOrder(t, l)
	}
}

func TestClose(t *testing.T) {
	for _, row := range []struct{ l, want []api.Above }{
		{above(3, 4, 2, 3), above(2, 3, 2, 4, 3, 4)},
		{above(2, 3, 2, 3), above(2, 3)},
		{above(2, 4, 2, 3), above(2, 3, 2, 4)},
		{above(5, 4, 4, 3, 3, 2), above(3, 2, 4, 2, 4, 3, 5, 2, 5, 3, 5, 4)},
		{above(2, 3, 3, 4, 4, 5), above(2, 3, 2, 4, 2, 5, 3, 4, 3, 5, 4, 5)},
		{above(4, 9, 9, 2, 2, 7), above(2, 7, 4, 2, 4, 7, 4, 9, 9, 2, 9, 7)},
		{above(2, 3, 2, 4, 3, 5, 4, 5), above(2, 3, 2, 4, 2, 5, 3, 5, 4, 5)},
		{above(2, 3, 8, 9), above(2, 3, 8, 9)},
		{above(first, last, last, 500), above(first, 500, first, last, last, 500)},
	} {
		wantClose(t, row.l, row.want)
	}
}

func TestCloseOfCycles(t *testing.T) {
	for _, l := range [][]api.Above{
		above(2, 2), above(last, last), above(2, 3, 3, 2), above(2, 3, 3, 4, 4, 2), above(4, 3, 3, 2, 2, 4),
		above(2, 3, 3, 3), above(2, 3, 2, 4, 4, 5, 5, 2), above(7, 2, 2, 3, 3, 2), above(2, 3, 3, 2, 2, 9),
		// Ascending and transitive, but not irreflexive.
		above(2, 2, 2, 3, 3, 2, 3, 3), above(2, 2, 2, 3), above(2, 3, 3, 3),
	} {
		wantNoClose(t, l, api.ErrLoop)
	}
}

func TestCloseOfOtherEvents(t *testing.T) {
	for _, e := range notVisible() {
		wantNoClose(t, above(e, 5), api.ErrInvalid)
		wantNoClose(t, above(5, e), api.ErrInvalid)
		wantNoClose(t, above(e, e), api.ErrInvalid)
		wantNoClose(t, above(2, 3, 5, e), api.ErrInvalid)
		wantNoClose(t, above(2, 3, e, 5, 3, 4), api.ErrInvalid)
		// This error comes before that of a cycle, wherever it is.
		wantNoClose(t, above(2, 2, e, 5), api.ErrInvalid)
		wantNoClose(t, above(2, 3, 3, 2, 5, e), api.ErrInvalid)
		wantNoClose(t, above(e, 5, 2, 2), api.ErrInvalid)
	}
}

func TestKeep(t *testing.T) {
	chain := above(2, 3, 2, 4, 3, 4)
	for _, row := range []struct {
		l          []api.Above
		from, want []int
	}{
		{nil, nil, nil},
		{nil, events(0, 1, 2, 3), events(0, 1, 2, 3)},
		{chain, nil, nil},
		{chain, events(2), events(2)},
		{chain, events(2, 3), events(3)},
		{chain, events(3, 2), events(3)},
		{chain, events(2, 4), events(4)},
		{chain, events(4, 3, 2), events(4)},
		{chain, events(3, 2, 5, 2, 3), events(3, 5, 3)},
		// The order of the list remains, and duplicates, too.
		{chain, events(9, 4, 7, 2, 9, 5, 4), events(9, 4, 7, 9, 5, 4)},
		// Tau and Tick take priority over what some event is greater than, even if that event is not in the list.
		{chain, events(0, 2), events(0)},
		{chain, events(2, 0), events(0)},
		{chain, events(1, 2), events(1)},
		{chain, events(2, 3, 1), events(1)},
		{chain, events(0, 3, 4, 1), events(0, 4, 1)},
		{chain, events(0, 4), events(0, 4)},
		{chain, events(5, 1, 4, 0, 0), events(5, 1, 4, 0, 0)},
		// Nothing takes priority over Tau and Tick, and these not over each other.
		{chain, events(0, 1), events(0, 1)},
		{above(5, 9, 7, 9), events(5, 7), events(5, 7)},
		{above(5, 9, 7, 9), events(5, 9, 7), events(9)},
		{above(5, 7, 5, 9), events(9, 5), events(9)},
		{above(5, 7, 5, 9), events(9, 7), events(9, 7)},
		{above(first, last), events(first, last), events(last)},
		{above(last, first), events(first, last), events(first)},
		{above(last, first), events(0, last), events(0)},
	} {
		wantKeep(t, row.l, row.from, row.want)
	}
}

func TestKeepOfOtherEvents(t *testing.T) {
	l := above(5, 6)
	for _, e := range notVisible() {
		kept := events(e)
		if e != api.Tau && e != api.Tick {
			kept = events(e, 5)
		}
		wantKeep(t, l, events(e, 5), kept)
		wantKeep(t, l, events(e, 5, e, 6, e), events(e, e, 6, e))
		wantKeep(t, nil, events(e, 5, e), events(e, 5, e))
	}
}

func TestOtherExamples(t *testing.T) {
	wantClose(t, above(2, 3, 3, 4), above(2, 3, 2, 4, 3, 4))
	wantKeep(t, above(2, 3), events(0, 2, 4), events(0, 4))
	wantKeep(t, above(2, 3), events(2, 4), events(2, 4))
}
