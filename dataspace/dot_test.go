package dataspace_test

import (
	"testing"

	"cspcheck/api"
	"cspcheck/dataspace"
	"cspcheck/value"
)

func TestComplete(t *testing.T) {
	l := sample()
	for _, v := range of(dot(0, n(0), no), dot(0, n(1), yes), dot(1), dot(2), dot(3, n(1)), dot(4, n(77)), dot(4, dot(900)), dot(7, no), dot(8, seq()), dot(10, n(1), set(), yes)) {
		wantNoNext(t, shown(v, nil), l, v, true)
	}
	for _, v := range append(strangers(), notOf(api.ValDot)...) {
		wantNoNext(t, shown(v, nil), l, v, false)
	}
	wantNoNext(t, "a name in an empty list", nil, dot(0), false)
}

func TestNext(t *testing.T) {
	l := sample()
	wantNext(t, "c", l, dot(0), bit())
	wantNext(t, "c.0", l, dot(0, n(0)), flag())
	wantNext(t, "B", l, dot(3), bit())
	wantNext(t, "N", l, dot(4), unbounded)
	wantNext(t, "E", l, dot(6), set())
	wantNext(t, "M", l, dot(10), bit())
	wantNext(t, "M.1", l, dot(10, n(1)), unbounded)
	wantNext(t, "M.1.<>", l, dot(10, n(1), seq()), flag())
}

func TestJoin(t *testing.T) {
	l := sample()
	wantText(t, "c and 1", "c.1")(dataspace.Join(l, dot(0), n(1)))
	wantText(t, "c.1 and true", "c.1.true")(dataspace.Join(l, dot(0, n(1)), yes))
	wantText(t, "B and 0", "B.0")(dataspace.Join(l, dot(3), n(0)))
	wantText(t, "M and 0", "M.0")(dataspace.Join(l, dot(10), n(0)))
	for _, v := range otherKinds(0) {
		wantValue(t, "N and any value", dot(4, v))(dataspace.Join(l, dot(4), v))
		wantValue(t, "M.0 and any value", dot(10, n(0), v))(dataspace.Join(l, dot(10, n(0)), v))
	}
	wantText(t, "M.0.c and true", "M.0.c.true")(dataspace.Join(l, dot(10, n(0), dot(0)), yes))
	wantText(t, "e and <>", "e.<>")(dataspace.Join(l, dot(8), seq()))
}

func TestJoinOfNoElement(t *testing.T) {
	l := sample()
	for _, v := range of(n(2), n(-1), no, seq(n(0)), bit(), dot(0), value.Name(0)) {
		wantError(t, "c and another value", api.ErrDomain)(dataspace.Join(l, dot(0), v))
	}
	wantError(t, "c.1 and an integer", api.ErrDomain)(dataspace.Join(l, dot(0, n(1)), n(1)))
	wantError(t, "E and a value", api.ErrDomain)(dataspace.Join(l, dot(6), n(0)))
	wantError(t, "M.1.0 and an integer", api.ErrDomain)(dataspace.Join(l, dot(10, n(1), n(0)), n(1)))
}

func TestJoinTypes(t *testing.T) {
	l := sample()
	for _, v := range of(dot(0, n(1), yes), dot(1), dot(2), dot(3, n(1)), dot(4, n(77)), dot(10, n(1), set(), yes)) {
		wantError(t, "a complete value and another", api.ErrType)(dataspace.Join(l, v, n(0)))
	}
	for _, v := range otherKinds(api.ValDot) {
		wantError(t, "no dotted value and another", api.ErrType)(dataspace.Join(l, v, n(0)))
		wantError(t, "no dotted value and a dotted one", api.ErrType)(dataspace.Join(l, v, dot(0)))
	}
	for _, v := range notValues() {
		for _, other := range append(otherKinds(0), strangers()...) {
			wantError(t, "a second argument that is no value", api.ErrType)(dataspace.Join(l, other, v))
			wantError(t, "a first argument that is no value", api.ErrType)(dataspace.Join(l, v, other))
		}
		wantError(t, "no value in an unbounded domain", api.ErrType)(dataspace.Join(l, dot(4), v))
		wantError(t, "no value at all", api.ErrType)(dataspace.Join(l, v, v))
	}
}

func TestJoinOfStrangers(t *testing.T) {
	l := sample()
	for _, v := range strangers() {
		for _, b := range of(n(0), no, dot(0), sized(api.MaxValue, true)) {
			wantError(t, "a value that does not belong to the list and another", api.ErrDomain)(dataspace.Join(l, v, b))
		}
	}
	wantError(t, "a name in an empty list", api.ErrDomain)(dataspace.Join(nil, dot(0), n(0)))
}

func TestJoinTooLarge(t *testing.T) {
	l := sample()
	fitting, longer := sized(api.MaxValue-6, true), sized(api.MaxValue-5, true)
	wantValue(t, "the longest value", dot(4, fitting))(dataspace.Join(l, dot(4), fitting))
	wantError(t, "one byte more", api.ErrOverflow)(dataspace.Join(l, dot(4), longer))
	deep := nested(api.MaxValueNest-2, n(1))
	wantValue(t, "the deepest value", dot(4, deep))(dataspace.Join(l, dot(4), deep))
	wantError(t, "one level more", api.ErrOverflow)(dataspace.Join(l, dot(4), seq(deep)))
	half, rest := sized(60001, true), sized(api.MaxValue-6-60001, false)
	long := infos{channel("a", set(half), set(rest))}
	wantValue(t, "a long field after another", dot(0, half, rest))(dataspace.Join(long, dot(0, half), rest))
	more := sized(api.MaxValue-6-60001+1, true)
	wantError(t, "one byte more in a domain", api.ErrOverflow)(dataspace.Join(infos{channel("a", set(half), set(more))}, dot(0, half), more))
	wantError(t, "one byte more that is no element", api.ErrDomain)(dataspace.Join(infos{channel("a", set(half), bit())}, dot(0, half), more))
}

func TestJoinsOfTheMostFields(t *testing.T) {
	l := infos{con("A", 0), channel("a", bit(), unbounded, bit(), unbounded, bit(), unbounded, bit(), unbounded)}
	v := dot(1)
	var fields list
	for i := range int64(api.MaxArity) {
		fields = append(fields, n(i%2))
		var err api.Errno
		v, err = dataspace.Join(l, v, n(i%2))
		wantValue(t, "the value with one more field", value.Dot(1, fields))(v, err)
	}
	wantNoNext(t, "the value with all fields", l, v, true)
	wantError(t, "one field more", api.ErrType)(dataspace.Join(l, v, n(0)))
}
