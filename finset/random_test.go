package finset_test

import (
	"math/rand"
	"slices"
	"testing"

	"cspcheck/api"
	"cspcheck/finset"
	"cspcheck/value"
)

// universe returns the values that random sets are made of.
func universe() list {
	return of(n(-300), n(-1), n(0), n(1), n(2), n(255), n(256), value.Bool(false), value.Bool(true), value.Tuple(ints(1, 2)), value.Tuple(ints(1, 2, 0)), seq(), seq(n(1)), seq(n(1), n(0)), seq(n(2)),
		set(), set(1), set(1, 2), set(2), mapOf(), mapOf(n(1), n(2)), value.Dot(0, nil), value.Dot(0, ints(1)), value.Fun(1, nil), value.Proc(1, nil), value.Name(0), value.Name(300))
}

// some returns random elements of a list, of which about one in odds are taken.
func some(r *rand.Rand, l list, odds int) list {
	var chosen list
	for _, v := range l {
		if r.Intn(odds) == 0 {
			chosen = append(chosen, v)
		}
	}
	return chosen
}

// those returns the set of the elements of the universe with a property.
func those(property func(v api.Value) bool) api.Value {
	return value.Set(slices.DeleteFunc(universe(), func(v api.Value) bool { return !property(v) }))
}

func TestRandomSets(t *testing.T) {
	r := rand.New(rand.NewSource(1))
	for range 5000 {
		l, m := some(r, universe(), 1+r.Intn(4)), some(r, universe(), 1+r.Intn(4))
		a, b := value.Set(l), value.Set(m)
		wantValue(t, "Union", those(func(v api.Value) bool { return slices.Contains(l, v) || slices.Contains(m, v) }))(finset.Union(a, b))
		wantValue(t, "Inter", those(func(v api.Value) bool { return slices.Contains(l, v) && slices.Contains(m, v) }))(finset.Inter(a, b))
		wantValue(t, "Diff", those(func(v api.Value) bool { return slices.Contains(l, v) && !slices.Contains(m, v) }))(finset.Diff(a, b))
		v := universe()[r.Intn(len(universe()))]
		wantBool(t, "Member", slices.Contains(l, v))(finset.Member(v, a))
	}
}

func TestConsequences(t *testing.T) {
	r := rand.New(rand.NewSource(2))
	for range 5000 {
		a, b := value.Set(some(r, universe(), 2)), value.Set(some(r, universe(), 2))
		union, _ := finset.Union(a, b)
		rest, _ := finset.Diff(a, b)
		wantValue(t, "Diff(Union(a, b), b)", rest)(finset.Diff(union, b))
		inter, _ := finset.Inter(a, b)
		wantValue(t, "Diff(a, Diff(a, b))", inter)(finset.Diff(a, rest))
	}
}

func TestRandomSetsOfSets(t *testing.T) {
	r := rand.New(rand.NewSource(3))
	for range 3000 {
		var members []list
		var l list
		odds := 1 + r.Intn(5)
		for range 1 + r.Intn(5) {
			chosen := some(r, universe(), odds)
			if odds > 2 {
				// Most elements are in the set, so that some are in all sets.
				chosen = slices.DeleteFunc(universe(), func(v api.Value) bool { return slices.Contains(chosen, v) })
			}
			members, l = append(members, chosen), append(l, value.Set(chosen))
		}
		in := func(v api.Value) func(l list) bool { return func(l list) bool { return slices.Contains(l, v) } }
		out := func(v api.Value) func(l list) bool { return func(l list) bool { return !slices.Contains(l, v) } }
		wantValue(t, "BigUnion", those(func(v api.Value) bool { return slices.ContainsFunc(members, in(v)) }))(finset.BigUnion(value.Set(l)))
		wantValue(t, "BigInter", those(func(v api.Value) bool { return !slices.ContainsFunc(members, out(v)) }))(finset.BigInter(value.Set(l)))
	}
}

// sublists returns the lists of some of the elements of a list, in their order.
func sublists(l list) []list {
	if len(l) == 0 {
		return []list{nil}
	}
	all := sublists(l[:len(l)-1])
	for _, chosen := range all {
		all = append(all, append(slices.Clone(chosen), l[len(l)-1]))
	}
	return all
}

func TestRandomSubsets(t *testing.T) {
	r := rand.New(rand.NewSource(4))
	for range 300 {
		l := some(r, universe(), 5)
		var want list
		for _, chosen := range sublists(l[:min(len(l), 9)]) {
			want = append(want, value.Set(chosen))
		}
		wantValue(t, "Subsets", value.Set(want))(finset.Subsets(value.Set(l[:min(len(l), 9)])))
	}
}

// rows returns the lists with one element of each list.
func rows(lists []list) []list {
	if len(lists) == 0 {
		return []list{nil}
	}
	var all []list
	for _, row := range rows(lists[1:]) {
		for _, v := range lists[0] {
			all = append(all, append(of(v), row...))
		}
	}
	return all
}

func TestRandomProducts(t *testing.T) {
	r := rand.New(rand.NewSource(5))
	for range 1000 {
		var lists []list
		var l, want list
		for range r.Intn(4) {
			chosen := some(r, universe(), 2+r.Intn(5))
			lists, l = append(lists, chosen[:min(len(chosen), 8)]), append(l, value.Set(chosen[:min(len(chosen), 8)]))
		}
		for _, row := range rows(lists) {
			want = append(want, value.Seq(row))
		}
		wantValue(t, "Product", value.Set(want))(finset.Product(l))
	}
}

// model is a map as a table of Go.
type model map[api.Value]api.Value

func (m model) value() api.Value {
	var keys, values list
	for k, v := range m {
		keys, values = append(keys, k), append(values, v)
	}
	return value.Map(keys, values)
}

func (m model) keys() api.Value {
	var keys list
	for k := range m {
		keys = append(keys, k)
	}
	return value.Set(keys)
}

func TestRandomMaps(t *testing.T) {
	r := rand.New(rand.NewSource(6))
	pick := func() api.Value { return universe()[r.Intn(len(universe()))] }
	for range 200 {
		want, m := model{}, value.Map(nil, nil)
		for range 60 {
			before, k, v := m, pick(), pick()
			err := api.OK
			if r.Intn(3) == 0 {
				delete(want, k)
				m, err = finset.Delete(before, k)
			} else {
				want[k] = v
				m, err = finset.Update(before, k, v)
			}
			wantValue(t, "the map", want.value())(m, err)
			wantValue(t, "Keys", want.keys())(finset.Keys(m))
			k = pick()
			v, ok := want[k]
			wantBool(t, "HasKey", ok)(finset.HasKey(m, k))
			if ok {
				wantValue(t, "Lookup", v)(finset.Lookup(m, k))
			} else {
				wantError(t, "Lookup", api.ErrEmpty)(finset.Lookup(m, k))
			}
		}
	}
}

// wantSet requires the set of ascending integers, or ErrOverflow if they are too many.
func wantSet(t *testing.T, what string, l []int64) func(v api.Value, err api.Errno) {
	if len(l) > api.MaxSet {
		return wantError(t, what, api.ErrOverflow)
	}
	return wantValue(t, what, set(l...))
}

func TestRandomLongSets(t *testing.T) {
	r := rand.New(rand.NewSource(7))
	for range 40 {
		var l, m, union, inter, diff []int64
		for i := range int64(2000 + r.Intn(12000)) {
			inL, inM := r.Intn(2) == 0, r.Intn(2) == 0
			if inL {
				l = append(l, i)
			}
			if inM {
				m = append(m, i)
			}
			if inL || inM {
				union = append(union, i)
			}
			if inL && inM {
				inter = append(inter, i)
			}
			if inL && !inM {
				diff = append(diff, i)
			}
		}
		a, b := set(l...), set(m...)
		wantSet(t, "Union", union)(finset.Union(a, b))
		wantSet(t, "Inter", inter)(finset.Inter(a, b))
		wantSet(t, "Diff", diff)(finset.Diff(a, b))
		if both := sets(a, b); both != "" {
			wantSet(t, "BigUnion", union)(finset.BigUnion(both))
			wantSet(t, "BigInter", inter)(finset.BigInter(both))
		}
	}
}
