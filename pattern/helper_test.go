package pattern_test

import (
	"fmt"
	"math"
	"slices"
	"strings"
	"testing"

	"cspcheck/api"
	"cspcheck/pattern"
	"cspcheck/value"
)

type code = []api.Code

type list = []api.Value

// node returns a pattern with an operator.
func node(op int, num int64, kids ...code) code {
	return slices.Concat(append([]code{{{Op: op, Int: num, Kids: len(kids)}}}, kids...)...)
}

func x() code                               { return node(api.PatVar, 0) }
func wild() code                            { return node(api.PatWild, 0) }
func integer(i int64) code                  { return node(api.PatInt, i) }
func boolean(i int64) code                  { return node(api.PatBool, i) }
func tuple(kids ...code) code               { return node(api.PatTuple, 0, kids...) }
func seq(kids ...code) code                 { return node(api.PatSeq, 0, kids...) }
func cat(before int64, kids ...code) code   { return node(api.PatCat, before, kids...) }
func set(kids ...code) code                 { return node(api.PatSet, 0, kids...) }
func dot(name int64, fields ...code) code   { return node(api.PatDot, name, fields...) }
func pair(a, b code) code                   { return node(api.PatPair, 0, a, b) }
func both(a, b code) code                   { return node(api.PatBoth, 0, a, b) }
func copies(k int, p code) []code           { return slices.Repeat([]code{p}, k) }
func of(l ...api.Value) list                { return l }
func n(i int64) api.Value                   { return value.Int(i) }
func tupleOf(l ...api.Value) api.Value      { return value.Tuple(l) }
func seqOf(l ...api.Value) api.Value        { return value.Seq(l) }
func setOf(l ...api.Value) api.Value        { return value.Set(l) }
func dotOf(k int, l ...api.Value) api.Value { return value.Dot(k, l) }

const (
	no  = api.Value("\x02\x00")
	yes = api.Value("\x02\x01")
)

// upTo returns the integers from 0 to k - 1 as values.
func upTo(k int) list {
	var l list
	for i := range int64(k) {
		l = append(l, n(i))
	}
	return l
}

// sized returns a sequence of k bytes, at least 5 and no more than the limit.
func sized(k int) api.Value {
	l := of(yes)
	if k%2 == 0 {
		l = of(value.Name(0))
	}
	return value.Seq(append(l, slices.Repeat(of(yes), (k-len(value.Seq(l)))/2)...))
}

// nested returns a value inside k sequences.
func nested(k int, v api.Value) api.Value {
	for range k {
		v = seqOf(v)
	}
	return v
}

// nest returns a pattern inside k patterns of sequences.
func nest(k int, p code) code {
	return append(slices.Repeat(code{{Op: api.PatSeq, Kids: 1}}, k), p...)
}

// values returns values of all kinds.
func values() list {
	return of(n(0), n(1), n(-1), n(math.MaxInt64), n(math.MinInt64), no, yes, value.Name(0), value.Name(1), tupleOf(n(1), n(2)), tupleOf(n(1), n(2), n(3)), tupleOf(upTo(api.MaxArity)...),
		seqOf(), seqOf(n(1)), seqOf(n(1), n(2)), seqOf(seqOf()), setOf(), setOf(n(1)), setOf(n(1), n(2)), setOf(setOf()), value.Map(nil, nil), value.Map(of(n(1)), of(n(2))),
		dotOf(0), dotOf(1), dotOf(0, n(1)), dotOf(1, n(1)), dotOf(0, n(1), n(2)), dotOf(0, upTo(api.MaxArity)...), value.Fun(0, nil), value.Fun(1, of(n(2))), value.Proc(api.ProcStop, nil), value.Proc(api.ProcSkip, of(n(1))))
}

// notValues returns encodings of no value.
func notValues() list {
	return of("", "\x00", "\x01", "\x02\x02", "\x02\x01\x01", "\x0b\x00\x00", "\x04\x00\x00\x00", "\x04\x00\x01", "\x03\x00\x01"+n(1), "\x07\x00\x00", "\x07\x00\x01"+n(0),
		"\x05\x00\x02"+n(2)+n(1), "\x05\x00\x02"+n(1)+n(1), "\x04\x00\x01"+nested(api.MaxValueNest-1, n(1)), "\x04\x00\x01"+sized(api.MaxValue-2))
}

// notPatterns returns lists that are no patterns, whatever the names are.
func notPatterns() []code {
	l := []code{
		nil, {},
		append(x(), x()...), append(wild(), integer(0)...), append(tuple(x(), x()), x()...),
		tuple(), tuple(x()), tuple(copies(api.MaxArity+1, x())...),
		set(x(), x()), set(x(), x(), x()),
		node(api.PatPair, 0), node(api.PatPair, 0, x()), node(api.PatPair, 0, x(), x(), x()),
		node(api.PatBoth, 0), node(api.PatBoth, 0, x()), node(api.PatBoth, 0, x(), x(), x()),
		node(api.PatVar, 0, x()), node(api.PatWild, 0, x()), node(api.PatInt, 1, x()), node(api.PatBool, 1, x()),
		boolean(2), boolean(-1), boolean(math.MaxInt64), boolean(math.MinInt64),
		cat(0), cat(1), cat(-1), cat(1, x()), cat(-1, x()), cat(2, x(), x()), cat(math.MaxInt64, x()), cat(math.MinInt64, x()),
		cat(0, integer(1)), cat(0, seq()), cat(0, seq(), x()), cat(1, x(), seq()), cat(1, x(), cat(0, x()), x()), cat(0, both(x(), x())), cat(0, tuple(x(), x())), cat(0, dot(0)),
		node(0, 0), node(-1, 0), node(api.PatVar-1, 0), node(api.PatBoth+1, 0), node(api.PatBoth+1, 0, x(), x()), node(api.CodeInt, 1), node(api.CodeTuple, 0, x(), x()), node(math.MaxInt, 0), node(math.MinInt, 0),
		nest(api.MaxNest, x()), seq(copies(api.MaxNodes, wild())...),
	}
	for _, num := range []int64{1, -1, 2, math.MaxInt64, math.MinInt64} {
		l = append(l, node(api.PatVar, num), node(api.PatWild, num), node(api.PatTuple, num, x(), x()), node(api.PatSeq, num), node(api.PatSeq, num, x()), node(api.PatSet, num), node(api.PatSet, num, x()), node(api.PatPair, num, x(), x()), node(api.PatBoth, num, x(), x()))
	}
	for op := api.PatVar; op <= api.PatBoth; op++ {
		for _, kids := range []int{-1, -2, math.MinInt, 4, 1 << 32, 1<<32 + 2, math.MaxInt} {
			l = append(l, slices.Concat(code{{Op: op, Kids: kids}}, x(), x(), x()))
		}
	}
	// The same inside of other patterns.
	for _, p := range slices.Clone(l) {
		if len(p) > 0 {
			l = append(l, seq(p), tuple(x(), p), both(p, x()), dot(0, x(), p), cat(1, p, x()), cat(0, x(), p), set(p))
		}
	}
	return l
}

// names returns a list with enough names and fields for the patterns of the tests.
func names() []api.Info {
	return slices.Repeat([]api.Info{{Fields: make([]int, 10)}}, 10)
}

func copied(l []api.Info) []api.Info {
	l = slices.Clone(l)
	for i := range l {
		l[i].Fields, l[i].Domains = slices.Clone(l[i].Fields), slices.Clone(l[i].Domains)
	}
	return l
}

// shortly returns the beginning of a long text.
func shortly(text string) string {
	if len(text) > 300 {
		return fmt.Sprintf("%s.. (%d bytes)", text[:300], len(text))
	}
	return text
}

func shown(p code) string { return shortly(fmt.Sprint(p)) }

func shownValues(l ...api.Value) string {
	var texts []string
	for _, v := range l {
		text := value.Text(v, nil)
		if text == "" {
			text = fmt.Sprintf("no value %x", string(v))
		}
		texts = append(texts, shortly(text))
	}
	return shortly(strings.Join(texts, " and "))
}

// match returns the result of Match. It checks that the pattern has not changed.
func match(t *testing.T, p code, v api.Value) (list, bool) {
	t.Helper()
	old := slices.Clone(p)
	l, ok := pattern.Match(p, v)
	if !slices.Equal(p, old) {
		t.Errorf("Match changed %s", shown(old))
	}
	if !ok && len(l) != 0 {
		t.Errorf("Match(%s, %s) = %s, false", shown(p), shownValues(v), shownValues(l...))
	}
	return l, ok
}

// wantMatch requires that a value matches, with these values of the variables.
func wantMatch(t *testing.T, p code, v api.Value, want ...api.Value) {
	t.Helper()
	if l, ok := match(t, p, v); !ok || !slices.Equal(l, want) {
		t.Errorf("Match(%s, %s) = %s, %v, want %s", shown(p), shownValues(v), shownValues(l...), ok, shownValues(want...))
	}
}

// wantNoMatch requires that values do not match.
func wantNoMatch(t *testing.T, p code, l ...api.Value) {
	t.Helper()
	for _, v := range l {
		if got, ok := match(t, p, v); ok {
			t.Errorf("Match(%s, %s) = %s, true", shown(p), shownValues(v), shownValues(got...))
		}
	}
}

// build returns the result of Build. It checks that the arguments have not changed, and that the result is valid.
func build(t *testing.T, p code, l list) (api.Value, bool) {
	t.Helper()
	old, oldList := slices.Clone(p), slices.Clone(l)
	v, ok := pattern.Build(p, l)
	if !slices.Equal(p, old) || !slices.Equal(l, oldList) {
		t.Errorf("Build changed %s or %s", shown(old), shownValues(oldList...))
	}
	if ok != value.Valid(v) || !ok && v != "" {
		t.Errorf("Build(%s, %s) = %s, %v", shown(p), shownValues(l...), shownValues(v), ok)
	}
	return v, ok
}

// wantBuild requires the value of a pattern, and that it matches with the same values of the variables.
func wantBuild(t *testing.T, p code, want api.Value, l ...api.Value) {
	t.Helper()
	if v, ok := build(t, p, l); !ok || v != want {
		t.Errorf("Build(%s, %s) = %s, %v, want %s", shown(p), shownValues(l...), shownValues(v), ok, shownValues(want))
	}
	wantMatch(t, p, want, l...)
}

// wantNoBuild requires that a pattern has no value.
func wantNoBuild(t *testing.T, p code, l ...api.Value) {
	t.Helper()
	if v, ok := build(t, p, l); ok {
		t.Errorf("Build(%s, %s) = %s, true", shown(p), shownValues(l...), shownValues(v))
	}
}
