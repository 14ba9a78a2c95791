package alphabet_test

import (
	"slices"
	"testing"

	"cspcheck/alphabet"
	"cspcheck/api"
	"cspcheck/value"
)

// wantOwn requires that a function changes its argument neither by the call nor by a change or an extension of its result, and that another call has another result.
func wantOwn[A, B any](t *testing.T, what string, arg []A, equal func(a, b []A) bool, call func(arg []A) []B) {
	t.Helper()
	// Elements behind the end of the argument are not part of it either.
	whole := append(slices.Clone(arg), arg...)
	before := slices.Clone(whole)
	result := call(whole[:len(arg)])
	if len(result) == 0 {
		t.Errorf("%s has no result", what)
		return
	}
	other := call(whole[:len(arg)])
	if &result[0] == &other[0] {
		t.Errorf("two results of %s share memory", what)
	}
	var none B
	for i := range result {
		result[i] = none
	}
	for extended := result[:cap(result)]; len(extended) > 0; extended = extended[1:] {
		extended[0] = none
	}
	if !equal(whole, before) {
		t.Errorf("%s changes its argument, or its result is part of it", what)
	}
}

func TestSetsOfTheirOwn(t *testing.T) {
	for _, l := range [][]int{events(2, 3, 4), events(4, 3, 2, 3), events(7), events(0, 5, last+1)} {
		own := func(what string, call func(l []int) []int) {
			t.Helper()
			wantOwn(t, what, l, slices.Equal[[]int], call)
		}
		own("Set", alphabet.Set)
		own("Union with nothing", func(l []int) []int { return alphabet.Union(l, nil) })
		own("Union of nothing", func(l []int) []int { return alphabet.Union(nil, l) })
		own("Union with itself", func(l []int) []int { return alphabet.Union(l, l) })
		own("Union with more", func(l []int) []int { return alphabet.Union(l, events(2, 9)) })
		own("Inter with itself", func(l []int) []int { return alphabet.Inter(l, l) })
		own("Diff with nothing", func(l []int) []int { return alphabet.Diff(l, nil) })
		own("Diff from more", func(l []int) []int { return alphabet.Diff(events(9, 8), l) })
		own("Keep without an order", func(l []int) []int { return alphabet.Keep(nil, l) })
		own("Keep with a list that is no order", func(l []int) []int { return alphabet.Keep(above(2, 2), l) })
		own("Keep of all events", func(l []int) []int { return alphabet.Keep(above(8, 9), l) })
		own("Keep", func(l []int) []int { return alphabet.Keep(above(2, 3), append(events(5), l...)) })
	}
}

func TestPairsOfTheirOwn(t *testing.T) {
	for _, l := range [][]api.Pair{pairs(2, 3), pairs(2, 3, 2, 4, 3, 2), pairs(3, 2, 2, 4, 2, 3, 0, 2), pairs(5, 5, 5, 5)} {
		equal := slices.Equal[[]api.Pair]
		own := func(what string, call func(l []api.Pair) []api.Pair) {
			t.Helper()
			wantOwn(t, what, l, equal, call)
		}
		own("Relation", alphabet.Relation)
		own("Inverse", alphabet.Inverse)
		own("Compose with nothing", func(l []api.Pair) []api.Pair { return alphabet.Compose(l, nil) })
		own("Compose of nothing", func(l []api.Pair) []api.Pair { return alphabet.Compose(nil, l) })
		own("Compose with itself", func(l []api.Pair) []api.Pair { return alphabet.Compose(l, l) })
		for _, e := range events(0, 2, 9) {
			wantOwn(t, "Image", l, equal, func(l []api.Pair) []int { return alphabet.Image(l, e) })
		}
	}
}

func TestOrdersOfTheirOwn(t *testing.T) {
	for _, l := range [][]api.Above{above(2, 3), above(3, 4, 2, 3), above(2, 3, 2, 4, 3, 4)} {
		equal := slices.Equal[[]api.Above]
		wantOwn(t, "Close", l, equal, func(l []api.Above) []api.Above {
			order, _ := alphabet.Close(l)
			return order
		})
		wantOwn(t, "Keep", l, equal, func(l []api.Above) []int { return alphabet.Keep(l, events(2, 3, 4, 5)) })
	}
}

func TestEventsAreNotChanged(t *testing.T) {
	l := []api.Value{value.Dot(1, nil), value.Dot(0, nil), value.Dot(1, nil)}
	before := slices.Clone(l)
	wantIndex(t, l, value.Dot(0, nil), first+1)
	wantEvent(t, l, first+2, value.Dot(1, nil))
	wantList(t, "the list of events", l, before)
}
