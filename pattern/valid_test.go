package pattern_test

import (
	"math"
	"slices"
	"testing"

	"cspcheck/api"
	"cspcheck/pattern"
)

// wantValid requires a result of Valid. It checks that the arguments have not changed.
func wantValid(t *testing.T, p code, l []api.Info, want bool) {
	t.Helper()
	old, oldList := slices.Clone(p), copied(l)
	if got := pattern.Valid(p, l); got != want {
		t.Errorf("Valid(%s, %d names) = %v", shown(p), len(l), got)
	}
	same := func(a, b api.Info) bool {
		return slices.Equal(a.Fields, b.Fields) && slices.Equal(a.Domains, b.Domains)
	}
	if !slices.Equal(p, old) || !slices.EqualFunc(l, oldList, same) {
		t.Errorf("Valid changed %s or its list", shown(old))
	}
}

// patterns returns patterns of each operator, with the most and the fewest children.
func patterns() []code {
	return []code{
		x(), wild(), integer(0), integer(-1), integer(math.MaxInt64), integer(math.MinInt64), boolean(0), boolean(1),
		tuple(x(), x()), tuple(copies(api.MaxArity, wild())...), tuple(tuple(x(), wild()), integer(3), boolean(0)),
		seq(), seq(x()), seq(copies(api.MaxArity+1, integer(3))...), seq(seq(), seq(seq())),
		cat(0, x()), cat(0, wild()), cat(1, integer(1), x()), cat(0, wild(), integer(1)), cat(2, seq(), tuple(x(), x()), wild(), set()), cat(1, cat(0, x()), x(), cat(0, x())), cat(10, append(copies(10, boolean(1)), append([]code{x()}, copies(20, seq())...)...)...),
		set(), set(x()), set(set(integer(1))),
		dot(0), dot(9), dot(0, x()), dot(0, dot(1), dot(2, dot(3))), dot(9, copies(10, x())...),
		pair(x(), x()), pair(integer(1), pair(seq(), wild())), both(x(), wild()), both(both(x(), x()), both(seq(), set())),
	}
}

// P12.1: the operators and their children.
func TestValidPatterns(t *testing.T) {
	for _, p := range patterns() {
		wantValid(t, p, names(), true)
		wantValid(t, seq(x(), p), names(), true)
		wantValid(t, both(p, dot(3, p)), names(), true)
	}
}

// P12.1: lists that are no single pattern.
func TestListsThatAreNoPatterns(t *testing.T) {
	for _, p := range notPatterns() {
		wantValid(t, p, names(), false)
	}
	for _, p := range patterns() {
		wantValid(t, append(slices.Clone(p), wild()...), names(), false)
		wantValid(t, append(wild(), p...), names(), false)
		wantValid(t, p[:len(p)-1], names(), false)
		// Its last node has a child now, which is missing.
		p[len(p)-1].Kids++
		wantValid(t, p, names(), false)
	}
}

// P12.1: the name of a PatDot is an index of the list, which has as many fields or more.
func TestValidNames(t *testing.T) {
	l := []api.Info{{Name: "c", Data: -1, Fields: []int{0, 0}}, {Name: "A"}, {Name: "B", Fields: []int{7}, Domains: of("", "", "")}}
	for name, most := range []int{2, 0, 1} {
		for fields := range 5 {
			p := dot(int64(name), copies(fields, x())...)
			wantValid(t, p, l, fields <= most)
			wantValid(t, tuple(x(), set(p)), l, fields <= most)
			wantValid(t, cat(1, p, wild()), l, fields <= most)
			wantValid(t, dot(0, wild(), p), l, fields <= most)
			wantValid(t, dot(0, p, dot(2)), l, fields <= most)
		}
	}
	for _, name := range []int64{-1, -2, 3, 4, 65536, 1 << 32, 1<<32 + 1, math.MaxInt64, math.MinInt64} {
		wantValid(t, dot(name), l, false)
		wantValid(t, dot(name, x()), l, false)
		wantValid(t, seq(dot(0), dot(name)), l, false)
		wantValid(t, pair(dot(name), x()), l, false)
	}
	wantValid(t, dot(0), nil, false)
	wantValid(t, both(x(), dot(0)), []api.Info{}, false)
	wantValid(t, tuple(x(), integer(5)), nil, true)
	wantValid(t, dot(0, copies(api.MaxArity+1, x())...), []api.Info{{Fields: make([]int, api.MaxArity+1)}}, true)
	wantValid(t, dot(0, copies(api.MaxArity+2, x())...), []api.Info{{Fields: make([]int, api.MaxArity+1)}}, false)
}

// P12.1: the limits of the numbers of nodes and of the nesting.
func TestValidLimits(t *testing.T) {
	wantValid(t, seq(copies(api.MaxNodes-1, x())...), nil, true)
	wantValid(t, seq(copies(api.MaxNodes, x())...), nil, false)
	wantValid(t, cat(5, copies(api.MaxNodes-1, x())...), nil, true)
	wantValid(t, cat(5, copies(api.MaxNodes, x())...), nil, false)
	wantValid(t, nest(api.MaxNest-1, wild()), nil, true)
	wantValid(t, nest(api.MaxNest, wild()), nil, false)
	wantValid(t, nest(api.MaxNest-1, seq()), nil, true)
	wantValid(t, tuple(x(), nest(api.MaxNest-2, wild())), nil, true)
	wantValid(t, tuple(x(), nest(api.MaxNest-1, wild())), nil, false)
	deep := x()
	for range api.MaxNest - 1 {
		deep = both(x(), deep)
	}
	wantValid(t, deep, nil, true)
	wantValid(t, both(x(), deep), nil, false)
	wantValid(t, both(deep, x()), nil, false)
	wantValid(t, slices.Repeat(code{{Op: api.PatSeq, Kids: 1}}, api.MaxNodes), nil, false)
	wantValid(t, slices.Repeat(code{{Op: api.PatBoth, Kids: 2}}, 1<<20), nil, false)
}

// P12.1: the number of variables of any list.
func TestVars(t *testing.T) {
	for _, test := range []struct {
		p    code
		want int
	}{
		{nil, 0}, {x(), 1}, {wild(), 0}, {integer(int64(api.PatVar)), 0}, {tuple(x(), wild(), x()), 2}, {cat(1, x(), x(), seq(x(), dot(0, x()))), 4}, {pair(both(x(), x()), set(x())), 3},
		{append(x(), x()...), 2}, {code{{Op: api.PatVar, Int: 5, Kids: -3}, {Op: api.PatTuple, Kids: 9}, {Op: 99}}, 1}, {slices.Repeat(x(), 2*api.MaxNodes), 2 * api.MaxNodes},
	} {
		if got := pattern.Vars(test.p); got != test.want {
			t.Errorf("Vars(%s) = %d, want %d", shown(test.p), got, test.want)
		}
	}
}

// P12.2: irrefutable patterns.
func TestIrrefutable(t *testing.T) {
	for _, p := range []code{
		x(), wild(), tuple(x(), x()), tuple(copies(api.MaxArity, wild())...), both(x(), wild()), both(x(), tuple(x(), both(wild(), tuple(wild(), x())))), tuple(tuple(x(), x()), x(), both(x(), x())),
	} {
		if !pattern.Irrefutable(p) {
			t.Errorf("Irrefutable(%s) = false", shown(p))
		}
	}
}

// P12.2: all other patterns are not irrefutable, and neither are other lists.
func TestNotIrrefutable(t *testing.T) {
	refutable := []code{integer(0), boolean(0), boolean(1), seq(), seq(x()), cat(0, x()), cat(0, wild()), cat(1, x(), x()), set(), set(x()), dot(0), dot(0, x()), dot(-1), pair(x(), x()), pair(wild(), wild())}
	for _, p := range refutable {
		refutable = append(refutable, tuple(x(), p), tuple(p, x()), both(p, x()), both(x(), tuple(wild(), p)))
	}
	for _, p := range append(refutable, notPatterns()...) {
		if pattern.Irrefutable(p) {
			t.Errorf("Irrefutable(%s) = true", shown(p))
		}
	}
}

// P12.2: every value of a fitting type matches an irrefutable pattern.
func TestIrrefutablePatternsMatch(t *testing.T) {
	for _, v := range values() {
		for _, p := range []code{both(x(), wild()), both(x(), both(x(), wild()))} {
			if _, ok := match(t, p, v); !ok || !pattern.Irrefutable(p) {
				t.Errorf("%s does not match %s", shownValues(v), shown(p))
			}
		}
		wantMatch(t, tuple(x(), both(wild(), x())), tupleOf(v, n(0)), v, n(0))
	}
}
