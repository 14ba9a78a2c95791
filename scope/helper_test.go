package scope_test

import (
	"slices"
	"strconv"
	"strings"
	"testing"

	"cspcheck/api"
	"cspcheck/modules"
	"cspcheck/scope"
	"cspcheck/syntax"
	"cspcheck/timed"
)

// lines joins the lines of a source.
func lines(l ...string) string {
	return strings.Join(l, "\n")
}

// source returns the tree of a source without modules and timed sections.
func source(t *testing.T, src string) []api.Node {
	t.Helper()
	p, pos, e := syntax.Source(src)
	if e != api.OK {
		t.Fatalf("Source(%.300q): error %d at %v", src, e, pos)
	}
	return untimed(t, p)
}

func untimed(t *testing.T, p []api.Node) []api.Node {
	t.Helper()
	p, pos, e := modules.Expand(p)
	if e != api.OK {
		t.Fatalf("Expand: error %d at %v", e, pos)
	}
	p, pos, e = timed.Translate(p)
	if e != api.OK {
		t.Fatalf("Translate: error %d at %v", e, pos)
	}
	return p
}

// resolve returns the result of Resolve. It checks that nothing but Ints has changed, and not those of the argument.
func resolve(t *testing.T, p []api.Node) ([]api.Node, []api.Symbol) {
	t.Helper()
	before := slices.Clone(p)
	q, s, pos, e := scope.Resolve(p)
	if e != api.OK || pos != (api.Pos{}) {
		t.Fatalf("Resolve(%.300q): error %d at %v", syntax.Format(p), e, pos)
	}
	if !slices.Equal(p, before) {
		t.Errorf("Resolve(%.300q) changed its argument", syntax.Format(before))
	}
	if !slices.Equal(unresolved(q), p) {
		t.Errorf("Resolve(%.300q) changed more than Ints of names", syntax.Format(p))
	}
	return q, s
}

// unresolved returns a resolved tree with 0 as the numbers of its symbols.
func unresolved(q []api.Node) []api.Node {
	q = slices.Clone(q)
	for i := range q {
		if hasNumber(q[i].Op) {
			q[i].Int = 0
		}
	}
	return q
}

// hasNumber reports whether nodes with an operator have the number of a symbol.
func hasNumber(op int) bool {
	switch op {
	case api.OpName, api.OpFun, api.OpData, api.OpCon, api.OpNametype, api.OpSig, api.OpTypeName:
		return true
	}
	return false
}

// withoutMarks returns a tree without the marks behind names: a prime and what follows it.
func withoutMarks(p []api.Node) []api.Node {
	p = slices.Clone(p)
	for i := range p {
		p[i].Str, _, _ = strings.Cut(p[i].Str, "'")
	}
	return p
}

// wantResolved checks that names of a source denote the same symbol if and only if they are written with the same mark, and that this symbol has their name.
func wantResolved(t *testing.T, marked ...string) {
	t.Helper()
	p := source(t, lines(marked...))
	q, s := resolve(t, withoutMarks(p))
	numbers := map[string]int64{}
	names := map[int64]string{}
	for i, n := range p {
		if !hasNumber(n.Op) || n.Op == api.OpTypeName {
			continue
		}
		k, name := q[i].Int, q[i].Str
		if k < 0 || k >= int64(len(s)) || s[k].Name != name {
			t.Errorf("%s\n%s at %v has the number %d", lines(marked...), n.Str, n.Pos, k)
			continue
		}
		if old, ok := numbers[n.Str]; ok && old != k {
			t.Errorf("%s\n%s at %v denotes %d, but %d before", lines(marked...), n.Str, n.Pos, k, old)
		}
		if old, ok := names[k]; ok && old != n.Str {
			t.Errorf("%s\n%s at %v denotes the same as %s", lines(marked...), n.Str, n.Pos, old)
		}
		numbers[n.Str], names[k] = k, n.Str
	}
}

// describe writes a symbol with its kind and its arity.
func describe(s api.Symbol) string {
	kinds := []string{"?", "builtin", "global", "local", "var", "con", "channel", "data", "nametype"}
	return s.Name + " " + kinds[s.Kind] + " " + strconv.Itoa(s.Arity)
}

// wantSymbols checks the symbols of a source that follow the builtins: their names, kinds and arities.
func wantSymbols(t *testing.T, src string, want ...string) {
	t.Helper()
	q, s := resolve(t, source(t, src))
	if !slices.Equal(s[:25], scope.Builtins()) {
		t.Errorf("the symbols of %q do not begin with the builtins", src)
	}
	var got []string
	for k, x := range s[25:] {
		got = append(got, describe(x))
		if n := q[x.Node]; n.Str != x.Name || n.Int != int64(25+k) {
			t.Errorf("%q: symbol %s has the node %v", src, describe(x), n)
		}
		if k > 0 && x.Node <= s[25+k-1].Node {
			t.Errorf("%q: symbol %s is not in preorder", src, describe(x))
		}
	}
	if !slices.Equal(got, want) {
		t.Errorf("symbols of\n%s\n are %q, want %q", src, got, want)
	}
}

// wantErrorOf checks that a tree has an error and no result.
func wantErrorOf(t *testing.T, p []api.Node, want api.Pos, code api.Errno) {
	t.Helper()
	before := slices.Clone(p)
	q, s, pos, e := scope.Resolve(p)
	if e != code || pos != want || len(q) != 0 || len(s) != 0 {
		t.Errorf("Resolve(%.300q) = %d nodes, %d symbols, %v, error %d, want error %d at %v", syntax.Format(p), len(q), len(s), pos, e, code, want)
	}
	if !slices.Equal(p, before) {
		t.Errorf("Resolve(%.300q) changed its argument", syntax.Format(before))
	}
}

// wantError checks that a source has an error at the byte that is marked with ` in it.
func wantError(t *testing.T, want api.Errno, src ...string) {
	t.Helper()
	before, after, ok := strings.Cut(lines(src...), "`")
	if !ok {
		t.Fatalf("no mark in %q", src)
	}
	at := api.Pos{Line: strings.Count(before, "\n") + 1, Col: len(before) - strings.LastIndex(before, "\n")}
	wantErrorOf(t, source(t, before+after), at, want)
}

// wantNoError checks that a source has no error.
func wantNoError(t *testing.T, src ...string) {
	t.Helper()
	resolve(t, source(t, lines(src...)))
}

// repeated joins copies of a text that are numbered from 0 on, in the place of #.
func repeated(n int, text string) string {
	l := make([]string, n)
	for i := range l {
		l[i] = strings.ReplaceAll(text, "#", strconv.Itoa(i))
	}
	return lines(l...)
}
