package dataspace_test

import (
	"testing"

	"cspcheck/api"
	"cspcheck/dataspace"
	"cspcheck/value"
)

func TestValues(t *testing.T) {
	l := sample()
	wantText(t, "a datatype", "{A, B.0, B.1}")(dataspace.Values(l, 0))
	wantError(t, "one with an unbounded domain", api.ErrUnbounded)(dataspace.Values(l, 1))
	wantText(t, "one with an empty domain", "{F.false, F.true}")(dataspace.Values(l, 2))
	wantError(t, "one with an unbounded domain between others", api.ErrUnbounded)(dataspace.Values(l, 3))
	wantText(t, "no datatype", "{}")(dataspace.Values(l, 4))
	wantText(t, "no datatype at all", "{}")(dataspace.Values(nil, 0))
}

func TestValuesOfNoDatatype(t *testing.T) {
	// A channel is no constructor, so that no number of a datatype stands for the channels.
	for _, l := range []infos{sample(), append(sample(), channel("u", unbounded))} {
		wantText(t, "Values with -1", "{}")(dataspace.Values(l, -1))
		wantText(t, "Values with -2", "{}")(dataspace.Values(l, -2))
	}
}

func TestValuesOfSeveralFields(t *testing.T) {
	l := infos{channel("c", unbounded), con("A", 7, set(n(5), n(-2)), flag(), set(set(), set(n(1)))), con("B", 6), con("C", 7)}
	got, err := dataspace.Values(l, 7)
	if text := value.Text(got, dataspace.Names(l)); err != api.OK || text != "{A.-2.false.{}, A.-2.false.{1}, A.-2.true.{}, A.-2.true.{1}, A.5.false.{}, A.5.false.{1}, A.5.true.{}, A.5.true.{1}, C}" {
		t.Errorf("Values is %s, error %d", text, err)
	}
}

func TestValuesThatAreUnbounded(t *testing.T) {
	many := set(upTo(5000)...)
	wantError(t, "beside an empty domain", api.ErrUnbounded)(dataspace.Values(infos{con("A", 0, set(), unbounded)}, 0))
	wantError(t, "before an empty domain", api.ErrUnbounded)(dataspace.Values(infos{con("A", 0, unbounded, set())}, 0))
	wantError(t, "after too many values", api.ErrUnbounded)(dataspace.Values(infos{con("A", 0, many), con("B", 0, unbounded)}, 0))
	wantError(t, "before too many values", api.ErrUnbounded)(dataspace.Values(infos{con("B", 0, unbounded), con("A", 0, many)}, 0))
	wantError(t, "beside too many values", api.ErrUnbounded)(dataspace.Values(infos{con("A", 0, many, unbounded)}, 0))
}

func TestExtensions(t *testing.T) {
	l := sample()
	wantText(t, "of c.1", "{<false>, <true>}")(dataspace.Extensions(l, dot(0, n(1))))
	wantText(t, "of c", "{<0, false>, <0, true>, <1, false>, <1, true>}")(dataspace.Extensions(l, dot(0)))
	wantText(t, "of a complete event", "{<>}")(dataspace.Extensions(l, dot(0, n(1), yes)))
	wantText(t, "of a channel without fields", "{<>}")(dataspace.Extensions(l, dot(1)))
	wantText(t, "of a constructor without fields", "{<>}")(dataspace.Extensions(l, dot(2)))
	wantText(t, "of a constructor", "{<0>, <1>}")(dataspace.Extensions(l, dot(3)))
	wantText(t, "in the order of values", "{<-1>, <7>, <<>>}")(dataspace.Extensions(l, dot(8)))
	wantText(t, "with an empty domain", "{}")(dataspace.Extensions(l, dot(6)))
	wantText(t, "after an unbounded field", "{<false>, <true>}")(dataspace.Extensions(l, dot(10, n(1), seq(n(9)))))
	wantText(t, "after the last field, an unbounded one", "{<>}")(dataspace.Extensions(l, dot(4, dot(900))))
}

func TestExtensionsErrors(t *testing.T) {
	many := set(upTo(5000)...)
	l := append(sample(), con("S", 4, bit(), many, unbounded), con("T", 4, set(), unbounded), channel("m", many))
	for _, v := range notOf(api.ValDot) {
		wantError(t, "no dotted value", api.ErrType)(dataspace.Extensions(l, v))
	}
	for _, v := range strangers() {
		wantError(t, "a value that does not belong to the list", api.ErrDomain)(dataspace.Extensions(l, v))
	}
	wantError(t, "an unbounded field", api.ErrUnbounded)(dataspace.Extensions(l, dot(4)))
	wantError(t, "an unbounded field between others", api.ErrUnbounded)(dataspace.Extensions(l, dot(10)))
	wantError(t, "an unbounded field first", api.ErrUnbounded)(dataspace.Extensions(l, dot(10, n(0))))
	wantError(t, "an unbounded field and too many sequences", api.ErrUnbounded)(dataspace.Extensions(l, dot(11)))
	wantError(t, "an unbounded field and no sequences", api.ErrUnbounded)(dataspace.Extensions(l, dot(12)))
	wantError(t, "no element and an unbounded field", api.ErrDomain)(dataspace.Extensions(l, dot(11, n(2))))
	wantError(t, "too many sequences", api.ErrOverflow)(dataspace.Extensions(l, dot(13)))
}

func TestProductions(t *testing.T) {
	l := sample()
	wantText(t, "of nothing", "{}")(dataspace.Productions(l, set()))
	wantText(t, "of a channel", "{c.0.false, c.0.true, c.1.false, c.1.true}")(dataspace.Productions(l, set(dot(0))))
	wantText(t, "of a field", "{c.1.false, c.1.true}")(dataspace.Productions(l, set(dot(0, n(1)))))
	wantText(t, "of an event", "{c.1.false}")(dataspace.Productions(l, set(dot(0, n(1), no))))
	wantText(t, "of constructors", "{A, B.0, B.1}")(dataspace.Productions(l, set(dot(3), dot(2))))
	wantText(t, "of both", "{d, B.1}")(dataspace.Productions(l, set(dot(3, n(1)), dot(1))))
	wantText(t, "with an empty domain", "{}")(dataspace.Productions(l, set(dot(6), dot(9))))
	wantText(t, "with an empty domain and another", "{d}")(dataspace.Productions(l, set(dot(9), dot(1))))
	wantText(t, "after unbounded fields", "{N.<9>, M.1.N.false, M.1.N.true}")(dataspace.Productions(l, set(dot(10, n(1), dot(4)), dot(4, seq(n(9))))))
	wantText(t, "in the order of values", "{c.0.true, c.1.false, c.1.true, e.-1, e.7, e.<>}")(dataspace.Productions(l, set(dot(8), dot(0, n(1)), dot(0, n(0), yes))))
}

func TestProductionsOfValuesThatExtendOthers(t *testing.T) {
	l := sample()
	all := "{c.0.false, c.0.true, c.1.false, c.1.true}"
	wantText(t, "of a channel and its fields", all)(dataspace.Productions(l, set(dot(0), dot(0, n(0)), dot(0, n(1)))))
	wantText(t, "of a channel and its events", all)(dataspace.Productions(l, set(dot(0), dot(0, n(0), no), dot(0, n(1), yes))))
	wantText(t, "of all of them", all)(dataspace.Productions(l, set(dot(0), dot(0, n(0)), dot(0, n(0), no), dot(0, n(0), yes), dot(0, n(1)), dot(0, n(1), yes))))
	wantText(t, "of both fields and events", all)(dataspace.Productions(l, set(dot(0, n(0)), dot(0, n(0), yes), dot(0, n(1)), dot(0, n(1), no))))
	wantText(t, "of a field and an event with another", "{c.0.false, c.0.true, c.1.false}")(dataspace.Productions(l, set(dot(0, n(0)), dot(0, n(1), no))))
	wantText(t, "of a field of another name", "{c.1.false, c.1.true, B.1}")(dataspace.Productions(l, set(dot(0, n(1)), dot(3, n(1)))))
}

func TestProductionsErrors(t *testing.T) {
	many := set(upTo(5000)...)
	l := append(sample(), channel("m", many), con("S", 4, many, unbounded), con("T", 4, set(), unbounded))
	for _, v := range notOf(api.ValSet) {
		wantError(t, "no set", api.ErrType)(dataspace.Productions(l, v))
	}
	for _, v := range otherKinds(api.ValDot) {
		// The other elements do not belong to the list, are unbounded, and have too many values.
		for _, a := range of(set(v), set(v, dot(1)), set(dot(900), v), set(dot(4), v), set(dot(11), v)) {
			wantError(t, "a set with other elements", api.ErrType)(dataspace.Productions(l, a))
		}
	}
	for _, v := range strangers() {
		for _, a := range of(set(v), set(v, dot(1)), set(dot(4), v), set(dot(11), v), set(dot(0), v), set(v, dot(12))) {
			wantError(t, "an element that does not belong to the list", api.ErrDomain)(dataspace.Productions(l, a))
		}
	}
	for _, a := range of(set(dot(4)), set(dot(1), dot(4)), set(dot(4), dot(11)), set(dot(11), dot(12)), set(dot(12)), set(dot(13)), set(dot(10)), set(dot(10, n(1))), set(dot(4), dot(4, n(1)))) {
		wantError(t, "an unbounded domain", api.ErrUnbounded)(dataspace.Productions(l, a))
	}
	wantError(t, "too many values", api.ErrOverflow)(dataspace.Productions(l, set(dot(11))))
	wantError(t, "too many values after others", api.ErrOverflow)(dataspace.Productions(l, set(dot(0), dot(11))))
}

// strangers returns dotted values that do not belong to the sample or to the sample with three more elements.
func strangers() list {
	return of(dot(14), dot(900), dot(65535), dot(900, n(0)), dot(0, n(2)), dot(0, no), dot(0, n(2), no), dot(0, n(0), n(0)), dot(0, no, n(0)), dot(0, n(0), no, n(0)),
		dot(1, n(0)), dot(2, n(0)), dot(3, n(2)), dot(3, n(0), n(0)), dot(4, n(0), n(0)), dot(6, n(0)), dot(6, set()), dot(8, bit()), dot(9, n(0), n(0)),
		dot(10, n(2)), dot(10, n(2), n(0)), dot(10, n(1), n(0), n(0)), dot(10, n(1), n(0), no, no), dot(0, set(n(0))), dot(0, dot(0)), dot(0, n(0), no, yes, no, yes, no, yes, no))
}
