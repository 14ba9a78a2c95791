package finset_test

import (
	"testing"

	"cspcheck/api"
	"cspcheck/finset"
	"cspcheck/value"
)

func TestLookup(t *testing.T) {
	m := mapOf(n(1), n(10), n(2), seq(n(20)), seq(), set(), value.Bool(true), n(2))
	wantText(t, "the first key", "10")(finset.Lookup(m, n(1)))
	wantText(t, "another key", "<20>")(finset.Lookup(m, n(2)))
	wantText(t, "a boolean", "2")(finset.Lookup(m, value.Bool(true)))
	wantText(t, "the last key", "{}")(finset.Lookup(m, seq()))
	wantError(t, "no key", api.ErrEmpty)(finset.Lookup(m, n(3)))
	wantError(t, "a value that is no key", api.ErrEmpty)(finset.Lookup(m, n(10)))
	wantError(t, "a key of the empty map", api.ErrEmpty)(finset.Lookup(mapOf(), n(1)))
}

func TestHasKey(t *testing.T) {
	m := mapOf(n(1), n(10), n(2), seq(n(20)), seq(), set())
	wantBool(t, "the first key", true)(finset.HasKey(m, n(1)))
	wantBool(t, "the last key", true)(finset.HasKey(m, seq()))
	wantBool(t, "no key", false)(finset.HasKey(m, n(3)))
	wantBool(t, "a value that is no key", false)(finset.HasKey(m, n(10)))
	wantBool(t, "a key of the empty map", false)(finset.HasKey(mapOf(), n(1)))
}

func TestUpdate(t *testing.T) {
	m := mapOf(n(1), n(10), n(2), n(20), n(4), n(40))
	wantText(t, "of the first key", "(|1 => 11, 2 => 20, 4 => 40|)")(finset.Update(m, n(1), n(11)))
	wantText(t, "of the last key", "(|1 => 10, 2 => 20, 4 => {}|)")(finset.Update(m, n(4), set()))
	wantText(t, "with the value that it has", "(|1 => 10, 2 => 20, 4 => 40|)")(finset.Update(m, n(2), n(20)))
	wantText(t, "before all keys", "(|-1 => 0, 1 => 10, 2 => 20, 4 => 40|)")(finset.Update(m, n(-1), n(0)))
	wantText(t, "between keys", "(|1 => 10, 2 => 20, 3 => 0, 4 => 40|)")(finset.Update(m, n(3), n(0)))
	wantText(t, "after all keys", "(|1 => 10, 2 => 20, 4 => 40, <> => 0|)")(finset.Update(m, seq(), n(0)))
	wantText(t, "of a value that is no key", "(|1 => 10, 2 => 20, 4 => 40, 10 => 1|)")(finset.Update(m, n(10), n(1)))
	wantText(t, "of the empty map", "(|1 => 2|)")(finset.Update(mapOf(), n(1), n(2)))
	wantText(t, "of a map in a map", "(|1 => (||)|)")(finset.Update(mapOf(), n(1), mapOf()))
}

func TestDelete(t *testing.T) {
	m := mapOf(n(1), n(10), n(2), n(20), n(4), n(40))
	wantText(t, "the first key", "(|2 => 20, 4 => 40|)")(finset.Delete(m, n(1)))
	wantText(t, "a key between", "(|1 => 10, 4 => 40|)")(finset.Delete(m, n(2)))
	wantText(t, "the last key", "(|1 => 10, 2 => 20|)")(finset.Delete(m, n(4)))
	wantText(t, "no key", "(|1 => 10, 2 => 20, 4 => 40|)")(finset.Delete(m, n(3)))
	wantText(t, "a value that is no key", "(|1 => 10, 2 => 20, 4 => 40|)")(finset.Delete(m, n(10)))
	wantText(t, "the only key", "(||)")(finset.Delete(mapOf(n(1), n(2)), n(1)))
	wantText(t, "a key of the empty map", "(||)")(finset.Delete(mapOf(), n(1)))
}

func TestKeys(t *testing.T) {
	wantText(t, "of the empty map", "{}")(finset.Keys(mapOf()))
	wantText(t, "of a map", "{-1, 1, true, <>}")(finset.Keys(mapOf(n(1), n(5), seq(), n(5), n(-1), n(7), value.Bool(true), n(1))))
}
