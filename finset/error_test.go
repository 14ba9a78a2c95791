package finset_test

import (
	"slices"
	"testing"

	"cspcheck/api"
	"cspcheck/finset"
	"cspcheck/value"
)

func TestArgumentsThatAreNotSets(t *testing.T) {
	// The union of these two sets would have too many elements.
	many, others := value.Set(between(1, 4000)), value.Set(between(5001, 9000))
	for _, v := range notSets() {
		wantError(t, "Union", api.ErrType)(finset.Union(v, set(1)))
		wantError(t, "Union of the second", api.ErrType)(finset.Union(set(1), v))
		wantError(t, "Union of both", api.ErrType)(finset.Union(v, v))
		wantError(t, "Inter", api.ErrType)(finset.Inter(v, set()))
		wantError(t, "Inter of the second", api.ErrType)(finset.Inter(set(), v))
		wantError(t, "Diff", api.ErrType)(finset.Diff(v, set()))
		wantError(t, "Diff of the second", api.ErrType)(finset.Diff(set(), v))
		wantError(t, "BigUnion", api.ErrType)(finset.BigUnion(v))
		wantError(t, "BigInter", api.ErrType)(finset.BigInter(v))
		wantError(t, "Subsets", api.ErrType)(finset.Subsets(v))
		wantNoBool(t, "Member", api.ErrType)(finset.Member(n(1), v))
		wantError(t, "Product", api.ErrType)(finset.Product(of(v)))
		wantError(t, "Product after a set", api.ErrType)(finset.Product(of(set(1), v)))
		wantError(t, "Product after the empty set", api.ErrType)(finset.Product(of(set(), v)))
		wantError(t, "Product before the empty set", api.ErrType)(finset.Product(of(v, set())))
		wantError(t, "Product after many elements", api.ErrType)(finset.Product(of(many, others, v)))
	}
}

func TestElementsThatAreNotSets(t *testing.T) {
	for _, v := range otherKinds(api.ValSet) {
		for _, a := range of(sets(v), sets(set(), v), sets(set(1), v), sets(set(1), v, n(7), value.Name(7))) {
			wantError(t, "BigUnion", api.ErrType)(finset.BigUnion(a))
			wantError(t, "BigInter", api.ErrType)(finset.BigInter(a))
		}
	}
	// The sets alone would have too many elements.
	many := sets(value.Set(between(1, 4000)), value.Set(between(5001, 9000)), value.Name(0))
	wantError(t, "BigUnion of many", api.ErrType)(finset.BigUnion(many))
	wantError(t, "BigInter of many", api.ErrType)(finset.BigInter(many))
	// A map of sets is not a set of sets.
	wantError(t, "BigUnion of a map", api.ErrType)(finset.BigUnion(mapOf(set(1), set(2))))
	wantError(t, "BigInter of a sequence", api.ErrType)(finset.BigInter(seq(set(1), set(2))))
}

func TestArgumentsThatAreNotMaps(t *testing.T) {
	for _, v := range notMaps() {
		wantError(t, "Lookup", api.ErrType)(finset.Lookup(v, n(1)))
		wantNoBool(t, "HasKey", api.ErrType)(finset.HasKey(v, n(1)))
		wantError(t, "Update", api.ErrType)(finset.Update(v, n(1), n(2)))
		wantError(t, "Delete", api.ErrType)(finset.Delete(v, n(1)))
		wantError(t, "Keys", api.ErrType)(finset.Keys(v))
	}
}

func TestArgumentsThatAreNotValues(t *testing.T) {
	// A map with more pairs than a result may have, and one without the key.
	many := value.Map(between(1, 4100), slices.Repeat(of(value.Bool(true)), 4100))
	for _, v := range notValues() {
		wantNoBool(t, "Member", api.ErrType)(finset.Member(v, set(1)))
		wantNoBool(t, "Member of the empty set", api.ErrType)(finset.Member(v, set()))
		for _, m := range of(mapOf(), mapOf(n(1), n(2)), many) {
			wantError(t, "Lookup", api.ErrType)(finset.Lookup(m, v))
			wantNoBool(t, "HasKey", api.ErrType)(finset.HasKey(m, v))
			wantError(t, "Update of the key", api.ErrType)(finset.Update(m, v, n(1)))
			wantError(t, "Update of the value", api.ErrType)(finset.Update(m, n(1), v))
			wantError(t, "Update with a new key", api.ErrType)(finset.Update(m, n(0), v))
			wantError(t, "Delete", api.ErrType)(finset.Delete(m, v))
		}
	}
}
