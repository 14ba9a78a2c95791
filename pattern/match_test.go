package pattern_test

import (
	"math"
	"slices"
	"testing"

	"cspcheck/api"
	"cspcheck/pattern"
	"cspcheck/value"
)

// without returns the values of all kinds but some.
func without(l ...api.Value) list {
	return slices.DeleteFunc(values(), func(v api.Value) bool { return slices.Contains(l, v) })
}

// P12.2: a variable and a Wild match every value.
func TestMatchVariables(t *testing.T) {
	for _, v := range append(values(), sized(api.MaxValue), nested(api.MaxValueNest-1, n(1))) {
		wantMatch(t, x(), v, v)
		wantMatch(t, wild(), v)
		wantMatch(t, both(x(), both(wild(), x())), v, v, v)
	}
}

// P12.2: integers and booleans.
func TestMatchConstants(t *testing.T) {
	for _, i := range []int64{0, 1, -1, math.MaxInt64, math.MinInt64} {
		wantMatch(t, integer(i), n(i))
		wantNoMatch(t, integer(i), without(n(i))...)
	}
	wantMatch(t, boolean(0), no)
	wantMatch(t, boolean(1), yes)
	wantNoMatch(t, boolean(0), without(no)...)
	wantNoMatch(t, boolean(1), without(yes)...)
}

// P12.2: tuples with as many components.
func TestMatchTuples(t *testing.T) {
	wantMatch(t, tuple(x(), x()), tupleOf(n(1), n(2)), n(1), n(2))
	wantMatch(t, tuple(x(), wild(), integer(3)), tupleOf(yes, n(2), n(3)), yes)
	wantMatch(t, tuple(copies(api.MaxArity, x())...), tupleOf(upTo(api.MaxArity)...), upTo(api.MaxArity)...)
	wantMatch(t, tuple(tuple(x(), x()), x()), tupleOf(tupleOf(n(1), n(2)), n(3)), n(1), n(2), n(3))
	wantNoMatch(t, tuple(x(), integer(3)), tupleOf(n(3), n(2)), tupleOf(n(3), yes))
	wantNoMatch(t, tuple(integer(3), x()), tupleOf(n(2), n(3)))
	wantNoMatch(t, tuple(x(), x()), without(tupleOf(n(1), n(2)))...)
	wantNoMatch(t, tuple(x(), x(), x()), without(tupleOf(n(1), n(2), n(3)))...)
}

// P12.2: sequences with as many elements.
func TestMatchSequences(t *testing.T) {
	wantMatch(t, seq(), seqOf())
	wantMatch(t, seq(x()), seqOf(n(1)), n(1))
	wantMatch(t, seq(x(), wild(), x()), seqOf(n(1), n(2), n(3)), n(1), n(3))
	wantMatch(t, seq(seq(), seq(x())), seqOf(seqOf(), seqOf(n(1))), n(1))
	wantMatch(t, seq(copies(20, x())...), seqOf(upTo(20)...), upTo(20)...)
	wantNoMatch(t, seq(), without(seqOf())...)
	wantNoMatch(t, seq(x()), without(seqOf(n(1)), seqOf(seqOf()))...)
	wantNoMatch(t, seq(x(), x()), without(seqOf(n(1), n(2)))...)
	wantNoMatch(t, seq(x(), integer(2), x()), seqOf(n(2), n(1), n(2)), seqOf(n(1), n(2)), seqOf(n(2), n(3)))
	wantNoMatch(t, seq(x(), x()), dotOf(0, n(1)), dotOf(0, n(1), n(2)), tupleOf(n(1), n(2)), setOf(n(1), n(2)))
}

// P12.2: sequences of at least as many elements as there are patterns for them.
func TestMatchCat(t *testing.T) {
	wantMatch(t, cat(0, x()), seqOf(), seqOf())
	wantMatch(t, cat(0, wild()), seqOf())
	wantMatch(t, cat(0, x()), seqOf(n(1), n(2)), seqOf(n(1), n(2)))
	wantMatch(t, cat(1, x(), x()), seqOf(n(1), n(2), n(3)), n(1), seqOf(n(2), n(3)))
	wantMatch(t, cat(1, x(), x()), seqOf(n(1)), n(1), seqOf())
	wantMatch(t, cat(0, x(), x()), seqOf(n(1), n(2), n(3)), seqOf(n(1), n(2)), n(3))
	wantMatch(t, cat(2, x(), x(), x(), x()), seqOf(upTo(5)...), n(0), n(1), seqOf(n(2), n(3)), n(4))
	wantMatch(t, cat(1, x(), x(), x(), x()), seqOf(upTo(5)...), n(0), seqOf(n(1), n(2)), n(3), n(4))
	wantMatch(t, cat(1, x(), x(), x(), x()), seqOf(upTo(3)...), n(0), seqOf(), n(1), n(2))
	wantMatch(t, cat(1, x(), wild(), x()), seqOf(upTo(2)...), n(0), n(1))
	wantMatch(t, cat(1, integer(0), wild(), integer(3)), seqOf(upTo(4)...))
	wantMatch(t, cat(1, cat(0, x(), x()), x(), seq(x())), seqOf(seqOf(yes, no), n(4), n(5), seqOf(n(6))), seqOf(yes), no, seqOf(n(4), n(5)), n(6))
	wantNoMatch(t, cat(1, integer(1), wild(), integer(3)), seqOf(upTo(4)...))
	wantNoMatch(t, cat(1, integer(0), wild(), integer(2)), seqOf(upTo(4)...))
	wantNoMatch(t, cat(1, integer(0), wild(), integer(0)), seqOf(n(0)))
	wantNoMatch(t, cat(1, x(), x()), seqOf())
	wantNoMatch(t, cat(0, x(), x()), seqOf())
	wantNoMatch(t, cat(1, x(), x(), x()), seqOf(), seqOf(n(1)))
	wantNoMatch(t, cat(1, x(), x(), x(), x()), seqOf(n(1), n(2)))
	wantNoMatch(t, cat(0, x()), without(seqOf(), seqOf(n(1)), seqOf(n(1), n(2)), seqOf(seqOf()))...)
	wantNoMatch(t, cat(1, x(), x()), without(seqOf(n(1)), seqOf(n(1), n(2)), seqOf(seqOf()))...)
}

// P12.2: the empty set, and sets with one element.
func TestMatchSets(t *testing.T) {
	wantMatch(t, set(), setOf())
	wantMatch(t, set(x()), setOf(n(7)), n(7))
	wantMatch(t, set(tuple(integer(1), x())), setOf(tupleOf(n(1), n(2))), n(2))
	wantMatch(t, set(set(set())), setOf(setOf(setOf())))
	wantNoMatch(t, set(), without(setOf())...)
	wantNoMatch(t, set(x()), without(setOf(n(1)), setOf(setOf()))...)
	wantNoMatch(t, set(integer(1)), setOf(n(2)), setOf(n(1), n(2)))
}

// P12.2: dotted values with the name and as many fields.
func TestMatchDots(t *testing.T) {
	wantMatch(t, dot(0), dotOf(0))
	wantMatch(t, dot(5, x()), dotOf(5, n(1)), n(1))
	wantMatch(t, dot(65535, x(), integer(2), x()), dotOf(65535, n(1), n(2), n(3)), n(1), n(3))
	wantMatch(t, dot(0, dot(1, x()), x()), dotOf(0, dotOf(1, n(1)), dotOf(0)), n(1), dotOf(0))
	wantMatch(t, dot(0, copies(api.MaxArity, x())...), dotOf(0, upTo(api.MaxArity)...), upTo(api.MaxArity)...)
	wantNoMatch(t, dot(0), without(dotOf(0))...)
	wantNoMatch(t, dot(0, x()), without(dotOf(0, n(1)))...)
	wantNoMatch(t, dot(0, x(), integer(1)), dotOf(0, n(1), n(2)))
	for _, name := range []int64{-1, 2, 65536, 65537, 1 << 32, math.MaxInt64, math.MinInt64} {
		wantNoMatch(t, dot(name), values()...)
		wantNoMatch(t, dot(name, x()), values()...)
	}
	wantNoMatch(t, dot(0, copies(api.MaxArity+1, x())...), values()...)
}

// P12.2: dots without a constructor match no value.
func TestMatchPairs(t *testing.T) {
	for _, p := range []code{pair(x(), x()), pair(wild(), wild()), pair(dot(0), x()), pair(integer(1), pair(x(), x()))} {
		wantNoMatch(t, p, values()...)
		wantNoMatch(t, both(x(), p), values()...)
		wantNoMatch(t, seq(p), seqOf(n(1)), seqOf(dotOf(0, n(1))))
	}
}

// P12.2: values that match both patterns, with the variables of both.
func TestMatchBoth(t *testing.T) {
	wantMatch(t, both(x(), seq(x())), seqOf(n(4)), seqOf(n(4)), n(4))
	wantMatch(t, both(seq(x()), x()), seqOf(n(4)), n(4), seqOf(n(4)))
	wantMatch(t, both(integer(4), integer(4)), n(4))
	wantMatch(t, tuple(both(cat(1, x(), x()), cat(0, x(), x())), x()), tupleOf(seqOf(n(1), n(2)), n(3)), n(1), seqOf(n(2)), seqOf(n(1)), n(2), n(3))
	wantMatch(t, both(both(x(), tuple(x(), wild())), tuple(wild(), x())), tupleOf(n(1), n(2)), tupleOf(n(1), n(2)), n(1), n(2))
	wantNoMatch(t, both(x(), integer(4)), without(n(4))...)
	wantNoMatch(t, both(integer(4), x()), without(n(4))...)
	wantNoMatch(t, both(integer(3), integer(4)), n(3), n(4))
	wantNoMatch(t, both(seq(x()), seq(x(), x())), seqOf(n(1)), seqOf(n(1), n(2)))
}

// Example 1 and 2.
func TestExamples(t *testing.T) {
	wantMatch(t, cat(1, x(), x()), seqOf(n(1), n(2), n(3)), n(1), seqOf(n(2), n(3)))
	wantNoMatch(t, set(x()), setOf(n(1), n(2)))
}

// P12.2: values that are not valid match no pattern.
func TestMatchNoValues(t *testing.T) {
	for _, p := range []code{x(), wild(), both(x(), wild()), cat(0, x()), seq(), seq(x()), set(), dot(0), tuple(x(), x())} {
		wantNoMatch(t, p, notValues()...)
	}
	wantNoMatch(t, integer(1), n(1)+"\x00", n(1)[:8])
	wantNoMatch(t, boolean(1), "\x02\x02", yes+yes)
}

// P12.2: no value matches a list that is no pattern.
func TestMatchNoPatterns(t *testing.T) {
	for _, p := range notPatterns() {
		wantNoMatch(t, p, n(0), yes, seqOf(), seqOf(n(1)), setOf(n(1)), dotOf(0, n(1)), tupleOf(n(1), n(2)), tupleOf(n(1), seqOf()))
	}
	wantNoMatch(t, append(x(), x()...), n(1))
	wantNoMatch(t, append(x(), wild()...), n(1))
	wantNoMatch(t, append(seq(x()), x()...), seqOf(n(1)), seqOf(n(1), n(2)))
}

// P12.2: the limits of patterns and values.
func TestMatchLimits(t *testing.T) {
	most := slices.Repeat(of(yes), api.MaxNodes-1)
	wantMatch(t, seq(copies(api.MaxNodes-1, x())...), seqOf(most...), most...)
	wantNoMatch(t, seq(copies(api.MaxNodes, x())...), seqOf(append(most, yes)...))
	wantMatch(t, nest(api.MaxValueNest-1, x()), nested(api.MaxValueNest-1, n(1)), n(1))
	wantNoMatch(t, nest(api.MaxValueNest, x()), nested(api.MaxValueNest-1, n(1)))
	deep, want := x(), of(n(1))
	for range api.MaxNest - 1 {
		deep, want = both(x(), deep), append(want, n(1))
	}
	wantMatch(t, deep, n(1), want...)
	wantNoMatch(t, both(x(), deep), n(1))
	long := sized(api.MaxValue)
	parts := value.Parts(long)
	wantMatch(t, cat(1, wild(), x(), wild()), long, seqOf(parts[1:len(parts)-1]...))
}

// Many parts of a pattern may be matched with the same long value.
func TestMatchManyParts(t *testing.T) {
	long := sized(api.MaxValue)
	p := cat(0, wild(), x())
	for len(p) < api.MaxNodes/4 {
		p = both(p, p)
	}
	p = both(p, seq(x()))
	wantNoMatch(t, p, long)
	wantNoMatch(t, nest(20, p), nested(20, sized(api.MaxValue-100)))
}

// R2: the result is new memory.
func TestMatchSharesNothing(t *testing.T) {
	p, v := tuple(x(), seq(x(), x())), tupleOf(n(1), seqOf(n(2), n(3)))
	l, _ := pattern.Match(p, v)
	for i := range l {
		l[i] = ""
	}
	wantMatch(t, p, v, n(1), n(2), n(3))
}
