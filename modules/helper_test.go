package modules_test

import (
	"slices"
	"strconv"
	"strings"
	"testing"

	"cspcheck/api"
	"cspcheck/modules"
	"cspcheck/syntax"
)

// source returns the tree of a source.
func source(t *testing.T, src string) []api.Node {
	t.Helper()
	p, pos, e := syntax.Source(src)
	if e != api.OK {
		t.Fatalf("Source(%.300q): error %d at %v", src, e, pos)
	}
	return p
}

// lines joins the lines of a source.
func lines(l ...string) string {
	return strings.Join(l, "\n")
}

// withPrimes writes the joined names of a tree with primes instead of ::, so that it can be formatted.
func withPrimes(p []api.Node) []api.Node {
	p = slices.Clone(p)
	for i := range p {
		p[i].Str = strings.ReplaceAll(p[i].Str, "::", "'")
	}
	return p
}

// expand returns the result of Expand, which must be flat, and checks that the argument is unchanged.
func expand(t *testing.T, p []api.Node) []api.Node {
	t.Helper()
	before := slices.Clone(p)
	q, pos, e := modules.Expand(p)
	if e != api.OK || pos != (api.Pos{}) {
		t.Fatalf("Expand(%.300q): error %d at %v", syntax.Format(p), e, pos)
	}
	if !slices.Equal(p, before) {
		t.Errorf("Expand(%.300q) changed its argument", syntax.Format(before))
	}
	if !modules.Flat(q) {
		t.Errorf("Expand(%.300q) is not flat", syntax.Format(p))
	}
	return q
}

// wantProgram checks the expansion of a source. The joined names of the expected source are written with primes.
func wantProgram(t *testing.T, src, want string) {
	t.Helper()
	got := syntax.Format(withPrimes(expand(t, source(t, src))))
	if w := syntax.Format(source(t, want)); got != w {
		t.Errorf("Expand of\n%s\nis\n%s\nwant\n%s", src, got, w)
	}
}

// module returns a source with a module M, whose exported members are some names and functions.
func module(body ...string) string {
	l := []string{"module M"}
	for _, s := range body {
		l = append(l, "  "+s)
	}
	return lines(append(l, "exports", "  a = 1", "  b = 2", "  f(x) = x", "endmodule")...)
}

// wantBody checks the expansion of the declarations of the first block of the module M.
func wantBody(t *testing.T, body, want string) {
	t.Helper()
	wantProgram(t, module(strings.Split(body, "\n")...), lines(want, "M'a = 1", "M'b = 2", "M'f(x) = x"))
}

// wantErrorOf checks that a tree has an error and no expansion.
func wantErrorOf(t *testing.T, p []api.Node, want api.Pos, code api.Errno) {
	t.Helper()
	q, pos, e := modules.Expand(p)
	if e != code || pos != want || len(q) != 0 {
		t.Errorf("Expand(%.300q) = %d nodes, %v, error %d, want error %d at %v", syntax.Format(p), len(q), pos, e, code, want)
	}
}

// wantError checks that a source has an error at the byte that is marked with ` in it.
func wantError(t *testing.T, src string, want api.Errno) {
	t.Helper()
	before, after, ok := strings.Cut(src, "`")
	if !ok {
		t.Fatalf("no mark in %q", src)
	}
	at := api.Pos{Line: strings.Count(before, "\n") + 1, Col: len(before) - strings.LastIndex(before, "\n")}
	wantErrorOf(t, source(t, before+after), at, want)
}

// repeated joins copies of a text that are numbered from 0 on, in the place of #.
func repeated(n int, text, separator string) string {
	l := make([]string, n)
	for i := range l {
		l[i] = strings.ReplaceAll(text, "#", strconv.Itoa(i))
	}
	return strings.Join(l, separator)
}

// program returns the tree of a program from its declarations.
func program(declarations ...[]api.Node) []api.Node {
	p := []api.Node{{Op: api.OpProgram, Kids: len(declarations)}}
	return append(p, slices.Concat(declarations...)...)
}

// node returns a node with its subtrees.
func node(op int, name string, kids ...[]api.Node) []api.Node {
	p := []api.Node{{Op: op, Str: name, Kids: len(kids)}}
	return append(p, slices.Concat(kids...)...)
}

// fun returns a function without parameters.
func fun(name string, body []api.Node) []api.Node {
	return node(api.OpFun, name, node(api.OpParams, ""), body)
}
