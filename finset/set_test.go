package finset_test

import (
	"slices"
	"testing"

	"cspcheck/api"
	"cspcheck/finset"
	"cspcheck/value"
)

func TestUnion(t *testing.T) {
	wantText(t, "of sets with common elements", "{1, 2, 3, 4}")(finset.Union(set(1, 2, 3), set(3, 4)))
	wantText(t, "of others", "{-5, 0, 1, 2}")(finset.Union(set(1, -5), set(2, 0)))
	wantText(t, "of a set after the other", "{1, 2, 3, 4}")(finset.Union(set(3, 4), set(1, 2)))
	wantText(t, "of a subset", "{1, 2, 3}")(finset.Union(set(2), set(1, 2, 3)))
	wantText(t, "of equal sets", "{1, 2}")(finset.Union(set(1, 2), set(1, 2)))
	wantText(t, "of the empty set and another", "{1, 2}")(finset.Union(set(), set(1, 2)))
	wantText(t, "of a set and the empty one", "{1, 2}")(finset.Union(set(1, 2), set()))
	wantText(t, "of empty sets", "{}")(finset.Union(set(), set()))
}

func TestInter(t *testing.T) {
	wantText(t, "of sets with a common element", "{3}")(finset.Inter(set(1, 2, 3), set(3, 4)))
	wantText(t, "of sets with several", "{-1, 2, 5}")(finset.Inter(set(-1, 0, 2, 5), set(-2, -1, 1, 2, 3, 5)))
	wantText(t, "of sets without any", "{}")(finset.Inter(set(1, 3), set(0, 2, 4)))
	wantText(t, "of a subset", "{2}")(finset.Inter(set(1, 2, 3), set(2)))
	wantText(t, "of equal sets", "{1, 2}")(finset.Inter(set(1, 2), set(1, 2)))
	wantText(t, "of the empty set and another", "{}")(finset.Inter(set(), set(1, 2)))
	wantText(t, "of a set and the empty one", "{}")(finset.Inter(set(1, 2), set()))
}

func TestDiff(t *testing.T) {
	wantText(t, "of sets with a common element", "{1, 2}")(finset.Diff(set(1, 2, 3), set(3, 4)))
	wantText(t, "of sets with several", "{0}")(finset.Diff(set(-1, 0, 2, 5), set(-2, -1, 1, 2, 3, 5)))
	wantText(t, "of sets without any", "{1, 3}")(finset.Diff(set(1, 3), set(0, 2, 4)))
	wantText(t, "of equal sets", "{}")(finset.Diff(set(1, 2), set(1, 2)))
	wantText(t, "of a subset and a set", "{}")(finset.Diff(set(2), set(1, 2, 3)))
	wantText(t, "of the empty set and another", "{}")(finset.Diff(set(), set(1, 2)))
	wantText(t, "of a set and the empty one", "{1, 2}")(finset.Diff(set(1, 2), set()))
}

func TestElementsOfEveryKind(t *testing.T) {
	a := of(n(-1), n(1), value.Bool(false), value.Tuple(ints(1, 2)), seq(), set(1), mapOf(n(1), n(2)), value.Dot(1, nil), value.Fun(1, nil), value.Proc(1, nil), value.Name(1))
	b := of(n(-1), n(2), value.Bool(true), value.Tuple(ints(1, 2, 0)), seq(), set(1, 2), mapOf(n(1), n(2)), value.Dot(1, ints(0)), value.Fun(1, nil), value.Proc(1, ints(7)), value.Name(1))
	wantText(t, "Union", "{-1, 1, 2, false, true, (1, 2), (1, 2, 0), <>, {1}, {1, 2}, (|1 => 2|), ?1, ?1.0, fun(1), proc(1), proc(1, 7), ?1}")(finset.Union(sets(a...), sets(b...)))
	wantText(t, "Inter", "{-1, <>, (|1 => 2|), fun(1), ?1}")(finset.Inter(sets(a...), sets(b...)))
	wantText(t, "Diff", "{1, false, (1, 2), {1}, ?1, proc(1)}")(finset.Diff(sets(a...), sets(b...)))
	wantValue(t, "BigUnion", sets(append(a, b...)...))(finset.BigUnion(sets(sets(a...), sets(b...))))
	for _, v := range a {
		wantBool(t, "Member", true)(finset.Member(v, sets(a...)))
		wantBool(t, "Member of others", slices.Contains(b, v))(finset.Member(v, sets(b...)))
	}
}

func TestBigUnion(t *testing.T) {
	wantText(t, "of nothing", "{}")(finset.BigUnion(set()))
	wantText(t, "of the empty set", "{}")(finset.BigUnion(sets(set())))
	wantText(t, "of one set", "{1, 2}")(finset.BigUnion(sets(set(2, 1))))
	wantText(t, "of several sets", "{-1, 0, 1, 2, 3, 4, 9}")(finset.BigUnion(sets(set(1, 9), set(), set(2, 1, 3), set(-1, 3, 4), set(0))))
	wantText(t, "of sets of sets", "{{}, {1}, {2}}")(finset.BigUnion(sets(sets(set(), set(1)), sets(set(1), set(2)))))
}

func TestBigInter(t *testing.T) {
	wantError(t, "of nothing", api.ErrEmpty)(finset.BigInter(set()))
	wantText(t, "of the empty set", "{}")(finset.BigInter(sets(set())))
	wantText(t, "of one set", "{1, 2}")(finset.BigInter(sets(set(2, 1))))
	wantText(t, "of several sets", "{2, 4}")(finset.BigInter(sets(set(1, 2, 3, 4), set(2, 3, 4), set(0, 2, 4), set(2, 4, 9))))
	wantText(t, "of sets of which each two have a common element", "{}")(finset.BigInter(sets(set(1, 2), set(2, 3), set(1, 3))))
	wantText(t, "of sets with the empty set", "{}")(finset.BigInter(sets(set(1, 2), set(), set(1))))
	wantText(t, "of sets of sets", "{{1}}")(finset.BigInter(sets(sets(set(), set(1)), sets(set(1), set(2)))))
}

func TestSubsets(t *testing.T) {
	wantText(t, "of the empty set", "{{}}")(finset.Subsets(set()))
	wantText(t, "of one element", "{{}, {7}}")(finset.Subsets(set(7)))
	wantText(t, "of two", "{{}, {1}, {1, 2}, {2}}")(finset.Subsets(set(1, 2)))
	wantText(t, "of three", "{{}, {-1}, {-1, 0}, {-1, 0, <>}, {-1, <>}, {0}, {0, <>}, {<>}}")(finset.Subsets(sets(n(-1), n(0), seq())))
	wantText(t, "of subsets", "{{}, {{}}, {{}, {1}}, {{1}}}")(finset.Subsets(sets(set(), set(1))))
}

func TestMember(t *testing.T) {
	wantBool(t, "the first", true)(finset.Member(n(1), set(1, 2, 3)))
	wantBool(t, "the last", true)(finset.Member(n(3), set(1, 2, 3)))
	wantBool(t, "another", false)(finset.Member(n(4), set(1, 2, 3)))
	wantBool(t, "of the empty set", false)(finset.Member(n(4), set()))
	wantBool(t, "an element of an element", false)(finset.Member(n(1), sets(set(1))))
	wantBool(t, "a set", true)(finset.Member(set(1), sets(set(1))))
	wantBool(t, "a subset", false)(finset.Member(set(1), set(1, 2)))
	wantBool(t, "of another kind", false)(finset.Member(value.Name(1), sets(value.Dot(1, nil), n(1), value.Bool(true))))
}
