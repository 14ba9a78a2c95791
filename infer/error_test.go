package infer_test

import (
	"slices"
	"strings"
	"testing"

	"cspcheck/api"
	"cspcheck/syntax"
)

// wantInvalid checks that Infer refuses its arguments.
func wantInvalid(t *testing.T, what string, p []api.Node, s []api.Symbol) {
	t.Helper()
	if _, pos, e := run(t, p, s); e != api.ErrInvalid || pos != (api.Pos{}) {
		t.Errorf("%s: Infer returns %v, error %d", what, pos, e)
	}
}

// P8.2: what Resolve does not return is refused before all other errors.
func TestInvalidArguments(t *testing.T) {
	p, s := source(t, lines("datatype T = A.{0}", "f :: T -> Int", "f(A.x) = x", "g = 1 + true"))
	parsed, _, _ := syntax.Source("f(x) = x")
	wantInvalid(t, "nothing", nil, nil)
	wantInvalid(t, "no symbols", p, nil)
	wantInvalid(t, "no program", nil, s)
	wantInvalid(t, "a program that is not resolved", parsed, s)
	wantInvalid(t, "a part of the program", p[:len(p)-1], s)
	wantInvalid(t, "more than the program", append(slices.Clone(p), api.Node{Op: api.OpInt}), s)
	wantInvalid(t, "a missing symbol", p, s[:len(s)-1])
	wantInvalid(t, "an additional symbol", p, append(slices.Clone(s), s[len(s)-1]))
	for i := range p {
		for _, change := range []func(*api.Node){
			func(n *api.Node) { n.Kids++ },
			func(n *api.Node) { n.Kids = -1 },
			func(n *api.Node) { n.Op = -1 },
			func(n *api.Node) { n.Int-- },
			func(n *api.Node) { n.Int += 1 << 40 },
		} {
			q := slices.Clone(p)
			change(&q[i])
			if q[i].Op != api.OpInt || q[i].Kids != 0 || q[i].Int < 0 {
				wantInvalid(t, "a changed node", q, s)
			}
		}
	}
	for k := range s {
		for _, change := range []func(*api.Symbol){
			func(x *api.Symbol) { x.Name += "1" },
			func(x *api.Symbol) { x.Kind++ },
			func(x *api.Symbol) { x.Node++ },
			func(x *api.Symbol) { x.Arity++ },
		} {
			r := slices.Clone(s)
			change(&r[k])
			wantInvalid(t, "a changed symbol", p, r)
		}
	}
}

// P8.2: the operands of assertions, in order.
func TestErrorsOfAssertions(t *testing.T) {
	wantSchemes(t, lines(
		"(p, q) = (head(<>), head(<>))",
		"(r, u) = (head(<>), head(<>))",
		"(v, w) = (head(<>), head(<>))",
		"assert p [T= q",
		"assert not r :[deterministic]",
		"assert u :[has trace]: v",
		"assert not STOP [FD= w",
	),
		"p, q, r, u, w: 0 Proc", "v: 0 <Event>",
	)
	for _, assertion := range []string{
		"1 [T= STOP", "STOP [F= 1", "1 :[deadlock free]", "not 1 :[divergence free]", "STOP :[has trace]: 1", "STOP :[has trace]: <1>", "not STOP :[has trace]: {}", "1 :[has trace]: <>",
	} {
		wantError(t, api.ErrType, "assert STOP [T= STOP", "`assert "+assertion, "assert 1 [T= 2")
	}
	wantError(t, api.ErrType, "assert 1 [T= (2 `+ true)")
	wantError(t, api.ErrType, "assert (2 `+ true) [T= (3 + true)")
}

// sized returns an expression of a variable whose type has as many nodes, if that of the variable has one.
func sized(n int, name string) string {
	switch n {
	case 1:
		return name
	case 2:
		return "<" + name + ">"
	}
	return "(" + sized((n-1)/2, name) + ", " + sized(n-1-(n-1)/2, name) + ")"
}

// nested returns an expression in sequences.
func nested(n int, expression string) string {
	return strings.Repeat("<", n) + expression + strings.Repeat(">", n)
}

// P8.2: types that are too large for an equation.
func TestLargeTypes(t *testing.T) {
	wantNoError(t, "f(x) = "+sized(api.MaxTypeNodes-2, "x"))
	wantError(t, api.ErrFull, "`f(x) = "+sized(api.MaxTypeNodes-1, "x"), "g = 1 + true")
	wantNoError(t, "f(x) = p(p(p(p(p(p(p(x)))))))", "p(x) = (x, x)")
	wantError(t, api.ErrFull, "f(x) = p`(p(p(p(p(p(p(p(x))))))))", "p(x) = (x, x)")
	wantNoError(t, "f(x) = "+nested(31, "g(x)"), "g(x) = "+nested(31, "x"))
	wantError(t, api.ErrFull, "`f(x) = "+nested(32, "g(x)"), "g(x) = "+nested(31, "x"))
	wantError(t, api.ErrFull, "f(x) = x `== "+big(3, "1"))
	wantError(t, api.ErrFull, "f(x) = 1 `== "+big(3, "1"))
	wantError(t, api.ErrFull, "f(x) = "+big(3, "1")+" `+ 1")
	wantError(t, api.ErrFull, "f(x) = `if true then 1 else "+big(3, "1"))
	wantNoError(t, "f = \\ a, b, c, d, e, g, h, i @ 1")
	wantError(t, api.ErrFull, "`f = \\ a, b, c, d, e, g, h, i, j @ 1")
	wantError(t, api.ErrFull, "f = (\\ a, b, c, d, e, g, h, i, j @ 1)`(1)")
	wantError(t, api.ErrFull, "channel c : `{"+big(3, "1")+"}")
	// Needs does not accept a type that has become too large in no equation.
	wantError(t, api.ErrClass, "f = <1 | w <- <>, v <- <>, u <- <>, u `== "+big(2, "v")+", v == "+big(2, "w")+">")
}

// P8.1: a type that is in no equation may be as large as it is.
func TestLargeTypesOfSymbols(t *testing.T) {
	s, l := schemes(t, lines(
		"datatype T = A.{"+big(2, "1")+"}.{"+big(2, "1")+"}.{"+big(2, "1")+"}.{"+big(2, "1")+"}.{"+big(2, "1")+"}.{"+big(2, "1")+"}.{"+big(2, "1")+"}.{"+big(2, "1")+"}",
		"f = <A.x.y | x <- <>, y <- <>>",
		"g = <1 | w <- <>, v <- <>, u <- <>, null(<u, "+big(2, "v")+">), null(<v, "+big(2, "w")+">)>",
	))
	k := slices.Index(namesOf(s), "A")
	tree := big2(api.TypeNode{Kind: api.TypeInt})
	want := list{{Kind: api.TypeData, Num: k - 1}}
	for range 8 {
		want = slices.Concat(list{{Kind: api.TypeExt, Kids: 2}}, tree, want)
	}
	if !slices.Equal(l[k].Type, want) {
		t.Errorf("A has a type of %d nodes, want %d", len(l[k].Type), len(want))
	}
	k = slices.Index(namesOf(s), "u")
	if want := big2(big2(api.TypeNode{Kind: api.TypeVar})...); !slices.Equal(l[k].Type, want) {
		t.Errorf("u has a type of %d nodes, want %d", len(l[k].Type), len(want))
	}
}

// big2 returns the type of big(2, name) if the name has a type.
func big2(t ...api.TypeNode) list {
	for range 2 {
		t = append(list{{Kind: api.TypeTuple, Kids: 8}}, slices.Repeat(t, 8)...)
	}
	return t
}

// R1: Infer terminates even where types would be exponentially large.
func TestExponentialTypes(t *testing.T) {
	generators, conditions := "z <- <>", "true"
	for k := range 20 {
		name := string(rune('a' + k))
		next := string(rune('a' + k + 1))
		generators += ", " + name + " <- <>"
		if k < 19 {
			conditions += ", null(<" + name + ", " + big(2, next) + ">)"
		}
	}
	for _, more := range []string{"", ", null(<z, let g(x) = (x, a) within g>)", ", a == a"} {
		p, s := source(t, "f = <1 | "+generators+", "+conditions+more+">")
		if _, _, e := run(t, p, s); e == api.OK {
			t.Errorf("types that are too large for any memory are no error")
		}
	}
}
