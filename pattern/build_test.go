package pattern_test

import (
	"math"
	"slices"
	"testing"

	"cspcheck/api"
	"cspcheck/value"
)

// P12.3: the values of patterns of each operator.
func TestBuild(t *testing.T) {
	for _, v := range values() {
		wantBuild(t, x(), v, v)
		wantBuild(t, set(x()), setOf(v), v)
		wantBuild(t, tuple(x(), integer(0), x()), tupleOf(v, n(0), v), v, v)
		wantBuild(t, cat(1, x(), x()), seqOf(v, v), v, seqOf(v))
	}
	for _, i := range []int64{0, 1, -1, math.MaxInt64, math.MinInt64} {
		wantBuild(t, integer(i), n(i))
	}
	wantBuild(t, boolean(0), no)
	wantBuild(t, boolean(1), yes)
	wantBuild(t, tuple(x(), x()), tupleOf(n(1), n(2)), n(1), n(2))
	wantBuild(t, tuple(copies(api.MaxArity, x())...), tupleOf(upTo(api.MaxArity)...), upTo(api.MaxArity)...)
	wantBuild(t, seq(), seqOf())
	wantBuild(t, seq(x(), integer(5), x()), seqOf(n(1), n(5), n(2)), n(1), n(2))
	wantBuild(t, set(), setOf())
	wantBuild(t, set(seq(x())), setOf(seqOf(n(1))), n(1))
	wantBuild(t, dot(0), dotOf(0))
	wantBuild(t, dot(65535, x(), boolean(1)), dotOf(65535, n(1), yes), n(1))
	wantBuild(t, dot(3, copies(api.MaxArity, x())...), dotOf(3, upTo(api.MaxArity)...), upTo(api.MaxArity)...)
	wantBuild(t, dot(0, dot(1, x()), dot(2)), dotOf(0, dotOf(1, n(7)), dotOf(2)), n(7))
}

// P12.3: the elements around a rest.
func TestBuildCat(t *testing.T) {
	wantBuild(t, cat(0, x()), seqOf(), seqOf())
	wantBuild(t, cat(0, x()), seqOf(n(1), n(2)), seqOf(n(1), n(2)))
	wantBuild(t, cat(1, integer(1), x()), seqOf(n(1), n(2)), seqOf(n(2)))
	wantBuild(t, cat(0, x(), x()), seqOf(n(1), n(2), n(3)), seqOf(n(1), n(2)), n(3))
	wantBuild(t, cat(2, x(), x(), x(), x()), seqOf(upTo(5)...), n(0), n(1), seqOf(n(2), n(3)), n(4))
	wantBuild(t, cat(1, cat(0, x(), x()), x(), cat(1, x(), x())), seqOf(seqOf(n(1), n(2)), seqOf(), seqOf(n(3))), seqOf(n(1)), n(2), seqOf(seqOf()), n(3), seqOf())
	for _, v := range values() {
		if value.Kind(v) != api.ValSeq {
			wantNoBuild(t, cat(0, x()), v)
			wantNoBuild(t, cat(1, x(), x()), seqOf(), v)
			wantNoBuild(t, cat(0, x(), x()), v, seqOf())
			wantNoBuild(t, seq(cat(1, integer(1), x())), v)
		}
	}
}

// P12.3: patterns with a PatWild, a PatBoth or a PatPair denote no value.
func TestBuildNoValue(t *testing.T) {
	wantNoBuild(t, wild())
	wantNoBuild(t, cat(0, wild()))
	for _, l := range []list{nil, of(n(1)), of(seqOf()), of(n(1), n(2)), of(n(1), n(1)), of(n(1), n(1), n(1)), of(dotOf(0), n(1)), of(seqOf(), n(1))} {
		for _, p := range []code{wild(), both(x(), x()), pair(x(), x()), both(integer(1), integer(1)), pair(integer(1), integer(1)), pair(dot(0), x()), cat(0, wild()), cat(1, x(), wild())} {
			wantNoBuild(t, p, l...)
			wantNoBuild(t, seq(p), l...)
			wantNoBuild(t, tuple(x(), p), l...)
			wantNoBuild(t, dot(0, p, x()), l...)
			wantNoBuild(t, cat(0, x(), p), l...)
		}
	}
}

// P12.3: lists that are no patterns.
func TestBuildNoPatterns(t *testing.T) {
	for _, p := range notPatterns() {
		for _, l := range []list{nil, of(n(1)), of(seqOf()), of(n(1), n(2)), of(seqOf(), seqOf(), seqOf()), slices.Repeat(of(yes), api.MaxArity+1), slices.Repeat(of(yes), api.MaxNodes)} {
			wantNoBuild(t, p, l...)
		}
	}
}

// P12.3: as many values as variables.
func TestBuildNumberOfValues(t *testing.T) {
	for vars := range 4 {
		for given := range 6 {
			p := seq(append(copies(vars, x()), integer(1))...)
			if given == vars {
				wantBuild(t, p, seqOf(append(upTo(vars), n(1))...), upTo(vars)...)
			} else {
				wantNoBuild(t, p, upTo(given)...)
			}
		}
	}
	wantNoBuild(t, x())
	wantNoBuild(t, x(), n(1), n(1))
	wantNoBuild(t, integer(1), n(1))
	wantNoBuild(t, cat(0, x()), seqOf(), seqOf())
}

// P12.3: values that are not valid.
func TestBuildOfNoValues(t *testing.T) {
	for _, v := range notValues() {
		wantNoBuild(t, x(), v)
		wantNoBuild(t, cat(0, x()), v)
		wantNoBuild(t, cat(1, x(), x()), v, seqOf())
		wantNoBuild(t, cat(0, x(), x()), seqOf(), v)
		wantNoBuild(t, tuple(x(), x()), n(1), v)
		wantNoBuild(t, seq(x()), v)
		wantNoBuild(t, set(x()), v)
		wantNoBuild(t, dot(0, x(), x()), v, n(1))
		wantNoBuild(t, seq(integer(1), set(dot(0, x()))), v)
	}
	// Each of these has the bytes of a value only together with others.
	wantNoBuild(t, seq(x(), x()), "\x02", "\x01\x02\x01")
	wantNoBuild(t, cat(1, x(), x()), "\x04\x00\x01", seqOf(n(1)))
}

// P12.3: names and numbers of fields that no value has.
func TestBuildOfNoDots(t *testing.T) {
	for _, name := range []int64{-1, 65536, 1 << 32, math.MaxInt64, math.MinInt64} {
		wantNoBuild(t, dot(name))
		wantNoBuild(t, dot(name, x()), n(1))
		wantNoBuild(t, seq(dot(name)))
	}
	wantNoBuild(t, dot(0, copies(api.MaxArity+1, x())...), upTo(api.MaxArity+1)...)
}

// P12.3: values that would be too long.
func TestBuildLongValues(t *testing.T) {
	longest := sized(api.MaxValue)
	wantBuild(t, x(), longest, longest)
	wantBuild(t, cat(0, x()), longest, longest)
	wantNoBuild(t, cat(1, boolean(1), x()), longest)
	fitting, longer := sized(api.MaxValue-3), sized(api.MaxValue-2)
	wantBuild(t, seq(x()), seqOf(fitting), fitting)
	wantBuild(t, set(x()), setOf(fitting), fitting)
	wantBuild(t, cat(1, x(), x()), seqOf(fitting), fitting, seqOf())
	wantNoBuild(t, seq(x()), longer)
	wantNoBuild(t, set(x()), longer)
	wantNoBuild(t, cat(1, x(), x()), longer, seqOf())
	wantNoBuild(t, tuple(x(), seq()), fitting)
	wantBuild(t, cat(1, boolean(1), x()), seqOf(append(of(yes), value.Parts(longer)...)...), longer)
	wantNoBuild(t, cat(1, boolean(1), x(), boolean(0)), longer)
	wantNoBuild(t, cat(1, integer(1), x()), longer)
	wantNoBuild(t, seq(x(), x(), x()), sized(60000), sized(60000), sized(60000))
}

// P12.3: values that would be nested too deep.
func TestBuildDeepValues(t *testing.T) {
	deep := nested(api.MaxValueNest-2, n(1))
	deepest := seqOf(deep)
	wantBuild(t, seq(x()), deepest, deep)
	wantBuild(t, dot(0, x()), dotOf(0, deep), deep)
	wantBuild(t, cat(0, x()), deepest, deepest)
	wantNoBuild(t, seq(x()), deepest)
	wantNoBuild(t, dot(0, x()), deepest)
	wantNoBuild(t, seq(set(x())), deep)
	wantNoBuild(t, cat(1, x(), x()), deepest, seqOf())
	wantBuild(t, nest(api.MaxValueNest-1, x()), nested(api.MaxValueNest-1, n(1)), n(1))
	wantNoBuild(t, nest(api.MaxValueNest, x()), n(1))
	wantNoBuild(t, nest(api.MaxNest-1, x()), n(1))
}

// The values of variables may be long, and many.
func TestBuildOfManyLongValues(t *testing.T) {
	long := sized(api.MaxValue)
	k := api.MaxNodes/2 - 1
	wantNoBuild(t, seq(copies(k, cat(0, x()))...), slices.Repeat(of(long), k)...)
	l := slices.Repeat(of(sized(25)), k)
	wantBuild(t, seq(copies(k, cat(0, x()))...), seqOf(l...), l...)
}
