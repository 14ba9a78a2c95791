package timed_test

import (
	"slices"
	"strconv"
	"strings"
	"testing"

	"cspcheck/api"
	"cspcheck/modules"
	"cspcheck/syntax"
	"cspcheck/timed"
)

// In the tests, T' stands for the Timed:: of a name, so that translations can be written as sources.

// lines joins the lines of a source.
func lines(l ...string) string {
	return strings.Join(l, "\n")
}

// source returns the tree of a source.
func source(t *testing.T, src string) []api.Node {
	t.Helper()
	p, pos, e := syntax.Source(src)
	if e != api.OK {
		t.Fatalf("Source(%.300q): error %d at %v", src, e, pos)
	}
	return p
}

// withoutPrimes returns a tree in which names that begin with T' begin with Timed::.
func withoutPrimes(p []api.Node) []api.Node {
	return withNames(p, "T'", "Timed::")
}

// text formats a tree whose names may begin with Timed::.
func text(p []api.Node) string {
	return syntax.Format(withNames(p, "Timed::", "T'"))
}

func withNames(p []api.Node, old, new string) []api.Node {
	p = slices.Clone(p)
	for i := range p {
		if rest, ok := strings.CutPrefix(p[i].Str, old); ok {
			p[i].Str = new + rest
		}
	}
	return p
}

// translate returns the result of Translate, which must be untimed, and checks that the argument is unchanged.
func translate(t *testing.T, p []api.Node) []api.Node {
	t.Helper()
	before := slices.Clone(p)
	q, pos, e := timed.Translate(p)
	if e != api.OK || pos != (api.Pos{}) {
		t.Fatalf("Translate(%.300q): error %d at %v", text(p), e, pos)
	}
	if !slices.Equal(p, before) {
		t.Errorf("Translate(%.300q) changed its argument", text(before))
	}
	if !modules.Flat(q) || !timed.Untimed(q) {
		t.Errorf("Translate(%.300q) is not an untimed program", text(p))
	}
	return q
}

// wantProgram checks the translation of a source.
func wantProgram(t *testing.T, src, want string) {
	t.Helper()
	got := translate(t, source(t, src))
	if w := source(t, want); !syntax.Equal(got, withoutPrimes(w)) {
		t.Errorf("Translate of\n%s\nis\n%s\nwant\n%s", src, text(got), syntax.Format(w))
	}
}

// preamble returns the declarations that come before all others if sections have delay functions with some names.
func preamble(functions ...string) string {
	l := []string{
		"T'tock = tock",
		"T'union(T'a, T'b) = union(T'a, T'b)",
		"T'diff(T'a, T'b) = diff(T'a, T'b)",
		"T'stop = T'tock -> T'stop",
		"T'skip = SKIP [] (T'tock -> T'skip)",
		"T'wait(T'n, T'p) = if T'n <= 0 then T'p else T'tock -> T'wait(T'n - 1, T'p)",
	}
	for k, f := range functions {
		l = append(l, "T'delay"+strconv.Itoa(k)+"(T'e) = "+f+"(T'e)")
	}
	return lines(l...)
}

// section returns a program whose timed section consists of some lines.
func section(body ...string) string {
	l := []string{"channel tock", "Timed (f)"}
	for _, s := range body {
		l = append(l, "  "+s)
	}
	return lines(append(l, "endtimed")...)
}

// wantBody checks the translation of the lines of a timed section.
func wantBody(t *testing.T, body, want string) {
	t.Helper()
	wantProgram(t, section(strings.Split(body, "\n")...), lines(preamble("f"), "channel tock", want))
}

// wantProcess checks the translation of a process.
func wantProcess(t *testing.T, process, want string) {
	t.Helper()
	wantBody(t, "P = "+process, "P = "+want)
}

// here returns the translation of a Prefix, of which prefix is what stands before the arrow.
func here(prefix, event, then string) string {
	return hereIn("  ", "0", prefix, event, then)
}

// hereIn returns the translation of a Prefix of a section with a number, with some spaces before its lines.
func hereIn(spaces, section, prefix, event, then string) string {
	now := prefix + " -> T'wait(T'delay" + section + "(" + event + "), " + then + ")"
	return lines("let", spaces+"  T'here = ("+now+") [] (T'tock -> T'here)", spaces+"within T'here")
}

// wantErrorOf checks that a tree has an error and no translation.
func wantErrorOf(t *testing.T, p []api.Node, want api.Pos, code api.Errno) {
	t.Helper()
	before := slices.Clone(p)
	q, pos, e := timed.Translate(p)
	if e != code || pos != want || len(q) != 0 {
		t.Errorf("Translate(%.300q) = %d nodes, %v, error %d, want error %d at %v", text(p), len(q), pos, e, code, want)
	}
	if !slices.Equal(p, before) {
		t.Errorf("Translate(%.300q) changed its argument", text(before))
	}
}

// wantError checks that a source has an error at the byte that is marked with ` in it.
func wantError(t *testing.T, src string, want api.Errno) {
	t.Helper()
	before, after, ok := strings.Cut(src, "`")
	if !ok {
		t.Fatalf("no mark in %q", src)
	}
	at := api.Pos{Line: strings.Count(before, "\n") + 1, Col: len(before) - strings.LastIndex(before, "\n")}
	wantErrorOf(t, source(t, before+after), at, want)
}

// node returns a node with its subtrees.
func node(op int, name string, kids ...[]api.Node) []api.Node {
	p := []api.Node{{Op: op, Str: name, Kids: len(kids)}}
	return append(p, slices.Concat(kids...)...)
}

// repeated joins n copies of a text.
func repeated(n int, text, separator string) string {
	return strings.Join(slices.Repeat([]string{text}, n), separator)
}
