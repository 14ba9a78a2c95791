package alphabet_test

import (
	"slices"
	"testing"

	"cspcheck/alphabet"
	"cspcheck/api"
)

// allEvents returns all visible events.
func allEvents() []int {
	var l []int
	for e := first; e <= last; e++ {
		l = append(l, e)
	}
	return l
}

// allPairs returns all pairs of visible events.
func allPairs() []api.Pair {
	l := make([]api.Pair, 0, api.MaxEvents*api.MaxEvents)
	for from := first; from <= last; from++ {
		for to := first; to <= last; to++ {
			l = append(l, api.Pair{From: from, To: to})
		}
	}
	return l
}

// reversed returns a list in the other order.
func reversed[T any](l []T) []T {
	l = slices.Clone(l)
	slices.Reverse(l)
	return l
}

func TestLongestSets(t *testing.T) {
	all := allEvents()
	many := slices.Repeat(reversed(all), 100)
	wantSet(t, "Set of all events", alphabet.Set(many), all)
	wantSet(t, "Union", alphabet.Union(many, all), all)
	wantSet(t, "Inter", alphabet.Inter(many, all), all)
	wantSet(t, "Diff", alphabet.Diff(many, all), nil)
	wantSet(t, "Diff of all but one", alphabet.Diff(many, all[1:]), events(first))
	wantList(t, "Keep", alphabet.Keep(above(first, last), many), slices.DeleteFunc(slices.Clone(many), func(e int) bool { return e == first }))
}

func TestLargestRelations(t *testing.T) {
	all := allPairs()
	twice := append(reversed(all), all...)
	wantRelation(t, "Relation", alphabet.Relation(twice), all)
	wantRelation(t, "Inverse", alphabet.Inverse(twice), all)
	wantRelation(t, "Compose", alphabet.Compose(twice, twice), all)
	wantSet(t, "Image", alphabet.Image(twice, last), allEvents())
	var next []api.Pair
	for e := first; e < last; e++ {
		next = append(next, api.Pair{From: e, To: e + 1})
	}
	wantRelation(t, "Compose with the next event", alphabet.Compose(all, next), slices.DeleteFunc(slices.Clone(all), func(p api.Pair) bool { return p.To == first }))
	wantRelation(t, "Compose of the next event", alphabet.Compose(next, all), all)
}

func TestLargestOrders(t *testing.T) {
	var chain, all []api.Above
	for low := first; low < last; low++ {
		chain = append(chain, api.Above{Low: low, High: low + 1})
		for high := low + 1; high <= last; high++ {
			all = append(all, api.Above{Low: low, High: high})
		}
	}
	for _, l := range [][]api.Above{chain, reversed(chain), all, reversed(all), append(reversed(all), chain...)} {
		wantClose(t, l, all)
	}
	for range 20 {
		wantKeep(t, all, allEvents(), events(last))
		wantKeep(t, all, events(api.Tick, last, 500), events(api.Tick, last))
	}
	wantNoOrder(t, chain)
	wantNoOrder(t, slices.Delete(slices.Clone(all), 5000, 5001))
	wantNoClose(t, append(chain, api.Above{Low: last, High: first}), api.ErrLoop)
	wantNoClose(t, append(all, api.Above{Low: last, High: last + 1}), api.ErrInvalid)
}

func TestLargestOrderAgainstTheNumbers(t *testing.T) {
	var chain, all []api.Above
	for low := first + 1; low <= last; low++ {
		chain = append(chain, api.Above{Low: low, High: low - 1})
		for high := first; high < low; high++ {
			all = append(all, api.Above{Low: low, High: high})
		}
	}
	wantClose(t, chain, all)
	wantClose(t, reversed(chain), all)
	wantKeep(t, all, events(7, 3, 900, 3), events(3, 3))
}

func TestAllPairsAreNoOrder(t *testing.T) {
	var l []api.Above
	for _, p := range allPairs() {
		l = append(l, api.Above{Low: p.From, High: p.To})
	}
	wantNoClose(t, l, api.ErrLoop)
	wantNoClose(t, append(l, api.Above{Low: 5, High: api.Tick}), api.ErrInvalid)
}
