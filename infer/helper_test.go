package infer_test

import (
	"slices"
	"strconv"
	"strings"
	"testing"

	"cspcheck/api"
	"cspcheck/infer"
	"cspcheck/modules"
	"cspcheck/scope"
	"cspcheck/syntax"
	"cspcheck/timed"
	"cspcheck/types"
)

type list = []api.TypeNode

// lines joins the lines of a source.
func lines(l ...string) string {
	return strings.Join(l, "\n")
}

// source returns the resolved tree of a source and its symbols.
func source(t *testing.T, src string) ([]api.Node, []api.Symbol) {
	t.Helper()
	p, pos, e := syntax.Source(src)
	if e != api.OK {
		t.Fatalf("Source(%q): error %d at %v", src, e, pos)
	}
	p, pos, e = modules.Expand(p)
	if e != api.OK {
		t.Fatalf("Expand(%q): error %d at %v", src, e, pos)
	}
	p, pos, e = timed.Translate(p)
	if e != api.OK {
		t.Fatalf("Translate(%q): error %d at %v", src, e, pos)
	}
	p, s, pos, e := scope.Resolve(p)
	if e != api.OK {
		t.Fatalf("Resolve(%q): error %d at %v", src, e, pos)
	}
	return p, s
}

// run returns the result of Infer. It checks that the arguments have not changed and that an error has no schemes.
func run(t *testing.T, p []api.Node, s []api.Symbol) ([]api.Scheme, api.Pos, api.Errno) {
	t.Helper()
	oldP, oldS := slices.Clone(p), slices.Clone(s)
	l, pos, e := infer.Infer(p, s)
	if !slices.Equal(p, oldP) || !slices.Equal(s, oldS) {
		t.Errorf("Infer changed its arguments")
	}
	if e != api.OK && len(l) != 0 || e == api.OK && (pos != api.Pos{} || len(l) != len(s)) {
		t.Errorf("Infer returns %d schemes of %d symbols, %v, error %d", len(l), len(s), pos, e)
	}
	return l, pos, e
}

// schemes returns the symbols of a source without errors and their schemes.
func schemes(t *testing.T, src string) ([]api.Symbol, []api.Scheme) {
	t.Helper()
	p, s := source(t, src)
	l, pos, e := run(t, p, s)
	if e != api.OK {
		t.Fatalf("Infer(%.300q): error %d at %v", src, e, pos)
	}
	return s, l
}

// show writes a scheme: the number of its quantified variables, its type, and the classes that they need.
func show(a api.Scheme, names []string) string {
	text := strconv.Itoa(a.Vars) + " " + types.Format(a.Type, names)
	for _, n := range a.Needs {
		text += " t" + strconv.Itoa(n.Var) + ":" + classNames(n.Classes)
	}
	return text
}

func classNames(classes int) string {
	var l []string
	for k, name := range []string{"Eq", "Ord", "Set"} {
		if classes&(1<<k) != 0 {
			l = append(l, name)
		}
	}
	return strings.Join(l, "+")
}

func namesOf(s []api.Symbol) []string {
	var l []string
	for _, x := range s {
		l = append(l, x.Name)
	}
	return l
}

// wantSchemes checks the schemes of symbols of a source. Each wanted one is the name of a symbol, or several ones separated by commas, a colon, and what show writes.
func wantSchemes(t *testing.T, src string, want ...string) {
	t.Helper()
	s, l := schemes(t, src)
	names := namesOf(s)
	for _, w := range want {
		symbols, text, _ := strings.Cut(w, ": ")
		for _, name := range strings.Split(symbols, ", ") {
			k := slices.Index(names, name)
			if k < 0 {
				t.Fatalf("%q has no symbol %s", src, name)
			}
			if got := show(l[k], names); got != text {
				t.Errorf("%s\n%s has the scheme %s, want %s", src, name, got, text)
			}
		}
	}
}

// wantError checks that a source has an error at the byte that is marked with ` in it.
func wantError(t *testing.T, want api.Errno, src ...string) {
	t.Helper()
	before, after, ok := strings.Cut(lines(src...), "`")
	if !ok {
		t.Fatalf("no mark in %q", src)
	}
	at := api.Pos{Line: strings.Count(before, "\n") + 1, Col: len(before) - strings.LastIndex(before, "\n")}
	p, s := source(t, before+after)
	if _, pos, e := run(t, p, s); e != want || pos != at {
		t.Errorf("%s\nhas error %d at %v, want error %d at %v", lines(src...), e, pos, want, at)
	}
}

// wantNoError checks that a source has no error.
func wantNoError(t *testing.T, src ...string) {
	t.Helper()
	schemes(t, lines(src...))
}

// many joins copies of a text.
func many(n int, text, between string) string {
	return strings.Join(slices.Repeat([]string{text}, n), between)
}

// big returns an expression in which a variable occurs 8 to the power of depth times, in tuples.
func big(depth int, name string) string {
	if depth == 0 {
		return name
	}
	return "(" + many(8, big(depth-1, name), ",") + ")"
}
