package core_test

import (
	"slices"
	"testing"

	"cspcheck/api"
	"cspcheck/core"
	"cspcheck/scope"
	"cspcheck/syntax"
)

// P13.1: Lower takes a resolved program with its symbols and their types only.
func TestInvalidArguments(t *testing.T) {
	p, s, types := inferred(t, lines("f(x, y) = x == y", "g = STOP", "(u, v) = (1, g)"))
	invalid := func(what string, p []api.Node, s []api.Symbol, types []api.Scheme) {
		t.Helper()
		if _, e := lower(t, p, s, types); e != api.ErrInvalid {
			t.Errorf("%s: error %d", what, e)
		}
	}
	invalid("no program", nil, nil, nil)
	invalid("no symbols", p, nil, types)
	invalid("no types", p, s, nil)
	invalid("one type too few", p, s, types[:len(types)-1])
	invalid("one type too many", p, s, append(slices.Clone(types), types[0]))
	invalid("one symbol too few", p, s[:len(s)-1], types)
	invalid("another tree", p[:len(p)-1], s, types)
	unresolved := slices.Clone(p)
	for i := range unresolved {
		if unresolved[i].Op == api.OpName {
			unresolved[i].Int = 0
		}
	}
	invalid("a program that is not resolved", unresolved, s, types)
	for k := range types {
		invalid("another number of variables", p, s, changed(types, k, func(a *api.Scheme) { a.Vars++ }))
		invalid("another type", p, s, changed(types, k, func(a *api.Scheme) { a.Type = []api.TypeNode{{Kind: api.TypeData, Num: 7}} }))
		invalid("no type", p, s, changed(types, k, func(a *api.Scheme) { a.Type = nil }))
		invalid("other classes", p, s, changed(types, k, func(a *api.Scheme) { a.Needs = append(slices.Clone(a.Needs), api.Need{Var: 9, Classes: 1}) }))
		if len(types[k].Needs) > 0 {
			invalid("no classes", p, s, changed(types, k, func(a *api.Scheme) { a.Needs = nil }))
		}
	}
	empty := changed(types, 0, func(*api.Scheme) {})
	for k := range empty {
		empty[k].Needs = append([]api.Need{}, empty[k].Needs...) // R3
	}
	if _, e := lower(t, p, s, empty); e != api.OK {
		t.Errorf("with empty lists of classes: error %d", e)
	}
}

// changed returns schemes of which one is changed by f.
func changed(types []api.Scheme, k int, f func(*api.Scheme)) []api.Scheme {
	types = slices.Clone(types)
	f(&types[k])
	return types
}

// P13.1: a program with an error of types has no types.
func TestProgramsWithoutTypes(t *testing.T) {
	p, _, _ := syntax.Source("f = 1 + true")
	p, s, _, e := scope.Resolve(p)
	if e != api.OK {
		t.Fatalf("error %d", e)
	}
	for _, types := range [][]api.Scheme{nil, make([]api.Scheme, len(s))} {
		if _, e := lower(t, p, s, types); e != api.ErrInvalid {
			t.Errorf("error %d of a program without types", e)
		}
	}
}

// wantFull checks that a source is lowered, or that this is ErrFull.
func wantFull(t *testing.T, src string, isFull bool) {
	t.Helper()
	want := api.OK
	if isFull {
		want = api.ErrFull
	}
	p, s, types := inferred(t, src)
	if _, e := lower(t, p, s, types); e != want {
		t.Errorf("%.300s\nhas error %d, want %d", src, e, want)
	}
	if _, pos, e := core.Source(src); e != want || pos != (api.Pos{}) {
		t.Errorf("Source(%.300s) has error %d at %v, want %d", src, e, pos, want)
	}
}

// P13.1: a function has at most 4 times MaxArity captured symbols and parameters.
func TestTooManyParameters(t *testing.T) {
	for n := 4*api.MaxArity - 2; n <= 4*api.MaxArity+2; n++ {
		list := "<" + many(n, "v#", ", ") + ">"
		sum := many(n, "v#", " + ")
		wantFull(t, lines("channel a", "f("+list+") = a -> ("+sum+" == 1) & STOP"), n > 4*api.MaxArity)
		wantFull(t, "f("+list+") = \\ x @ x + "+sum, n+1 > 4*api.MaxArity)
		wantFull(t, "f("+list+") = \\ x, y, _ @ x + "+sum, n+3 > 4*api.MaxArity)
		wantFull(t, lines("f("+list+") = let", "    g(x) = h(x)", "    h(_) = "+sum, "  within g(1)"), n+1 > 4*api.MaxArity)
		wantFull(t, lines("f("+list+") = let", "    P = ("+sum+" == 1) & STOP", "  within P"), n > 4*api.MaxArity)
		wantFull(t, "f("+list+") = let g = "+sum+" within g", false)
	}
}

// P13.1: a body has at most MaxNodes nodes. Here the pattern is repeated for each of its variables.
func TestTooLargeBodies(t *testing.T) {
	bind := func(variables, ints int) string {
		return lines("f = let", "    <"+many(variables, "x#", ", ")+"> = <>", "  within <"+many(ints, "1", ", ")+">")
	}
	c := lowered(t, bind(88, 93))
	if len(c.Funcs[0].Body) != api.MaxNodes {
		t.Errorf("a body of %d nodes", len(c.Funcs[0].Body))
	}
	wantFull(t, bind(88, 94), true)
	wantFull(t, bind(89, 1), true)
	wantFull(t, bind(2000, 1), true)
	wantFull(t, lines("channel a", "P = a -> (let", "    <"+many(100, "x#", ", ")+"> = <>", "  within STOP)"), true)
	wantFull(t, "<"+many(500, "x#", ", ")+"> = <>", false)
	wantFull(t, "f = <"+many(api.MaxNodes-4, "1", ", ")+">", false)
}

// The deepest trees are lowered, also where an operator becomes two nodes.
func TestDeepBodies(t *testing.T) {
	deep := "1"
	for range api.MaxNest - 3 {
		deep = "-(" + deep + ")"
	}
	wantFull(t, "f = "+deep, false)
	deep = "true"
	for range api.MaxNest - 3 {
		deep = "(" + deep + ") >= true"
	}
	wantFull(t, "f = "+deep, false)
	deep = "Events"
	for range (api.MaxNest - 4) / 4 {
		deep = "{|a | a : " + deep + "|}"
	}
	wantFull(t, lines("channel a", "f = "+deep), false)
	pattern := "x"
	for range api.MaxNest - 4 {
		pattern = "<" + pattern + ">"
	}
	wantFull(t, "f("+pattern+") = x", false)
}

// P13.2: the first error of the layers below, with its position.
func TestErrorsOfSource(t *testing.T) {
	at := func(line, col int) api.Pos { return api.Pos{Line: line, Col: col} }
	wantError(t, "f = \"", at(1, 5), api.ErrSyntax)
	wantError(t, " f = 1", at(1, 2), api.ErrLayout)
	wantError(t, "", api.Pos{}, api.ErrSyntax)
	wantError(t, "f = (1", api.Pos{}, api.ErrSyntax)
	wantError(t, lines("f = 1", "g = )"), at(2, 5), api.ErrSyntax)
	wantError(t, lines("x = 1", "instance I = M"), at(2, 1), api.ErrName)
	wantError(t, lines("channel a", "Timed (f)", "  P = STOP", "endtimed", "f(_) = 1"), at(2, 1), api.ErrName)
	wantError(t, lines("f = 1", "g = y"), at(2, 5), api.ErrName)
	wantError(t, lines("f = 1", "f = 2"), at(2, 1), api.ErrDuplicate)
	wantError(t, lines("f = 1 + true"), at(1, 7), api.ErrType)
	wantError(t, lines("f(x) = {x}", "g = f(STOP)"), at(2, 5), api.ErrClass)
	wantError(t, "f(x) = f", at(1, 1), api.ErrInfinite)
	wantError(t, lines("nametype N = f", "f = {1}"), at(1, 14), api.ErrState)
}

// P13.2: modules and timed sections are expanded and translated before.
func TestModulesAndTimedSections(t *testing.T) {
	wantFuncs(t, lines("module M(n)", "  k = n", "exports", "  f(x) = k + x", "endmodule", "instance I = M(7)", "y = I::f(1)"),
		"I::n/0: i7", "I::k/0: call0", "I::f/1: clause(tuple(v +(call1 s1)))", "y/0: call2(i1)")
	src := lines("channel tock, a", "f(_) = 1", "Timed (f)", "  P = a -> SKIP", "endtimed")
	wantHeads(t, src, "Timed::tock/0 3:1", "Timed::union/2 3:1", "Timed::diff/2 3:1", "Timed::stop/0P 3:1", "Timed::skip/0P 3:1", "Timed::wait/2P 3:1", "Timed::delay0/1 3:1", "f/1 2:1", "P/0P 4:3",
		"/2P 3:1", "Timed::here/0P 4:9", "/0P 4:9", "/0P 4:9")
	want := "extern(prefix(n1 proc11) prefix(call0 proc12))"
	if got := show(lowered(t, src).Funcs[10].Body); got != want {
		t.Errorf("the body of Timed::here is %s, want %s", got, want)
	}
}
