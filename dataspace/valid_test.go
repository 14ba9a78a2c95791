package dataspace_test

import (
	"math"
	"slices"
	"testing"

	"cspcheck/api"
	"cspcheck/dataspace"
)

func wantValid(t *testing.T, what string, l infos) {
	t.Helper()
	if !dataspace.Valid(l) {
		t.Errorf("%s: not valid", what)
	}
	names := dataspace.Names(l)
	if len(names) != len(l) {
		t.Fatalf("%s: %d names of %d elements", what, len(names), len(l))
	}
	for i, info := range l {
		if names[i] != info.Name {
			t.Errorf("%s: the name of element %d is %q, want %q", what, i, names[i], info.Name)
		}
	}
}

// wantInvalid requires that no function accepts the list, whatever its other arguments are.
func wantInvalid(t *testing.T, what string, l infos) {
	t.Helper()
	if dataspace.Valid(l) {
		t.Errorf("%s: valid", what)
	}
	if names := dataspace.Names(l); len(names) != 0 {
		t.Errorf("%s: Names has %d elements", what, len(names))
	}
	wantNoEvents(t, what+": Events", l, api.ErrInvalid)
	for _, data := range []int{-2, -1, 0, 1, 7} {
		wantError(t, what+": Values", api.ErrInvalid)(dataspace.Values(l, data))
	}
	for _, v := range of("", n(1), dot(0), dot(1), dot(0, n(0)), dot(65535), set(), set(n(1)), set(dot(0), dot(1))) {
		wantError(t, what+": Extensions", api.ErrInvalid)(dataspace.Extensions(l, v))
		wantError(t, what+": Productions", api.ErrInvalid)(dataspace.Productions(l, v))
		wantError(t, what+": Join", api.ErrInvalid)(dataspace.Join(l, v, n(0)))
		wantError(t, what+": Join", api.ErrInvalid)(dataspace.Join(l, v, ""))
		wantNoNext(t, what, l, v, false)
	}
}

func TestValidLists(t *testing.T) {
	wantValid(t, "nil", nil)
	wantValid(t, "nothing", infos{})
	wantValid(t, "the sample", sample())
	wantValid(t, "no domains", infos{channel("a"), con("A", 0)})
	wantValid(t, "an unbounded domain", infos{channel("a", unbounded)})
	wantValid(t, "empty domains", infos{channel("a", set()), con("A", 0, set(), set())})
	wantValid(t, "the most domains", infos{channel("a", slices.Repeat(of(bit()), api.MaxArity)...), con("A", 0, slices.Repeat(of(unbounded), api.MaxArity)...)})
	wantValid(t, "a great datatype", infos{con("A", math.MaxInt)})
	wantValid(t, "any names", infos{channel(""), channel("a"), channel("a"), con("\xff. ", 0)})
	wantValid(t, "any fields", infos{{Name: "a", Data: -1, Fields: []int{-5, math.MaxInt, 3, 3, 3, 3, 3, 3, 3, 3}, Domains: of(bit())}, {Name: "b", Fields: []int{1}}})
	wantValid(t, "the longest domain", infos{channel("a", set(sized(api.MaxValue-3, true)))})
	wantValid(t, "the deepest domain", infos{channel("a", set(nested(api.MaxValueNest-2, n(1))))})
	wantValid(t, "domains of all kinds", infos{channel("a", set(otherKinds(0)...), set(set(), set(n(1))))})
}

func TestMostInfos(t *testing.T) {
	most := slices.Repeat(infos{con("A", 0)}, 65536)
	wantValid(t, "65536 elements", most)
	wantInvalid(t, "65537 elements", append(most, con("A", 0)))
}

func TestInvalidLists(t *testing.T) {
	for _, data := range []int{-2, -3, math.MinInt} {
		wantInvalid(t, "Data", infos{con("A", data)})
		wantInvalid(t, "Data at the end", append(sample(), con("A", data)))
	}
	for _, domain := range of(unbounded, bit(), set()) {
		l := slices.Repeat(of(domain), api.MaxArity+1)
		wantInvalid(t, "many domains", infos{channel("a", l...)})
		wantInvalid(t, "many domains at the end", append(sample(), con("A", 0, l...)))
	}
	for _, domain := range notOf(api.ValSet) {
		if domain == unbounded {
			continue
		}
		wantInvalid(t, "a domain that is no set", infos{channel("a", domain)})
		wantInvalid(t, "a second one", infos{channel("a", domain, bit()), channel("b", domain)})
		wantInvalid(t, "one after others", infos{channel("a", bit(), bit(), unbounded, domain)})
		wantInvalid(t, "one at the end", append(sample(), con("A", 0, bit(), unbounded, domain)))
	}
}

func TestNamesAreNew(t *testing.T) {
	l := sample()
	names := dataspace.Names(l)
	names[0] = "other"
	wantValid(t, "the sample", l)
}
