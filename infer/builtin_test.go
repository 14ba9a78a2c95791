package infer_test

import (
	"math"
	"slices"
	"testing"

	"cspcheck/api"
	"cspcheck/infer"
	"cspcheck/scope"
)

// builtins returns the schemes of the builtins as show writes them.
func builtins() map[string]string {
	return map[string]string{
		"union":     "1 ({t0}, {t0}) -> {t0} t0:Set",
		"inter":     "1 ({t0}, {t0}) -> {t0} t0:Set",
		"diff":      "1 ({t0}, {t0}) -> {t0} t0:Set",
		"Union":     "1 ({{t0}}) -> {t0} t0:Set",
		"Inter":     "1 ({{t0}}) -> {t0} t0:Set",
		"member":    "1 (t0, {t0}) -> Bool t0:Set",
		"card":      "1 ({t0}) -> Int t0:Set",
		"empty":     "1 ({t0}) -> Bool t0:Set",
		"set":       "1 (<t0>) -> {t0} t0:Set",
		"seq":       "1 ({t0}) -> <t0> t0:Set",
		"Set":       "1 ({t0}) -> {{t0}} t0:Set",
		"head":      "1 (<t0>) -> t0",
		"tail":      "1 (<t0>) -> <t0>",
		"null":      "1 (<t0>) -> Bool",
		"elem":      "1 (t0, <t0>) -> Bool t0:Eq",
		"length":    "1 (<t0>) -> Int",
		"concat":    "1 (<<t0>>) -> <t0>",
		"mapLookup": "2 ((|t0 => t1|), t0) -> t1 t0:Set",
		"mapMember": "2 ((|t0 => t1|), t0) -> Bool t0:Set",
		"mapUpdate": "2 ((|t0 => t1|), t0, t1) -> (|t0 => t1|) t0:Set",
		"mapDelete": "2 ((|t0 => t1|), t0) -> (|t0 => t1|) t0:Set",
		"mapKeys":   "2 ((|t0 => t1|)) -> {t0} t0:Set",
		"Events":    "0 {Event}",
		"Bool":      "0 {Bool}",
		"Int":       "0 {Int}",
	}
}

// P8.3: the schemes of the builtins. P8.1: Infer returns them, too, and uses have their instances.
func TestBuiltins(t *testing.T) {
	for n, s := range scope.Builtins() {
		a, ok := infer.Builtin(n)
		if got, want := show(a, nil), builtins()[s.Name]; !ok || got != want {
			t.Errorf("Builtin of %s is %s, %v, want %s", s.Name, got, ok, want)
		}
		scribble(a)
		again, _ := infer.Builtin(n)
		if got, want := show(again, nil), builtins()[s.Name]; got != want {
			t.Errorf("Builtin of %s is %s after the first result was changed", s.Name, got)
		}
		wantSchemes(t, "f = "+s.Name, s.Name+", f: "+builtins()[s.Name])
	}
	for _, n := range []int{-1, 25, 26, math.MinInt, math.MaxInt} {
		a, ok := infer.Builtin(n)
		if ok || a.Vars != 0 || len(a.Type) != 0 || len(a.Needs) != 0 {
			t.Errorf("Builtin(%d) = %v, %v", n, a, ok)
		}
	}
	wantSchemes(t, "f = (card({1}), card({true}), mapLookup((| 1 => <true> |), 2), Set(Union({Bool, {}})))", "f: 0 (Int, Int, <Bool>, {{Bool}})")
	wantError(t, api.ErrType, "f = mapLookup`((| 1 => 2 |), true)")
}

// scribble overwrites a scheme, also behind the ends of its lists.
func scribble(a api.Scheme) {
	l := a.Type[:cap(a.Type)]
	for i := range l {
		l[i] = api.TypeNode{Kind: -7, Num: -7, Kids: -7}
	}
	needs := a.Needs[:cap(a.Needs)]
	for i := range needs {
		needs[i] = api.Need{Var: -7, Classes: -7}
	}
}

// declared returns a type that is written as in a Sig.
func declared(t *testing.T, typ string) list {
	t.Helper()
	s, l := schemes(t, lines("datatype T = A", "f :: "+typ, "f = head(<>)"))
	k := slices.Index(namesOf(s), "f")
	return l[k].Type
}

// P8.3: a type is an instance if it matches, and what replaces the quantified variables belongs to their classes.
func TestInstance(t *testing.T) {
	member, _ := infer.Builtin(5)
	lookup, _ := infer.Builtin(17)
	two := api.Scheme{Vars: 2, Needs: []api.Need{{Var: 0, Classes: api.ClassEq}, {Var: 1, Classes: api.ClassOrd + api.ClassSet}}, Type: declared(t, "(a, b)")}
	one := api.Scheme{Vars: 1, Needs: two.Needs, Type: two.Type}
	none := api.Scheme{Type: declared(t, "{Int}")}
	for _, c := range []struct {
		scheme api.Scheme
		typ    string
		want   bool
	}{
		{member, "(Int, {Int}) -> Bool", true},
		{member, "(a, {a}) -> Bool", true},
		{member, "(<(T, a)>, {<(T, a)>}) -> Bool", true},
		{member, "({b => Event}, {{b => Event}}) -> Bool", true},
		{member, "(Proc, {Proc}) -> Bool", false},
		{member, "({a -> b}, {{a -> b}}) -> Bool", false},
		{member, "(a, {b}) -> Bool", false},
		{member, "(Int, {Bool}) -> Bool", false},
		{member, "Int", false},
		{member, "a", false},
		{lookup, "((| T => Proc |), T) -> Proc", true},
		{lookup, "((| Proc => T |), Proc) -> T", false},
		{two, "(T, Int)", true},
		{two, "({a}, <(b, b)>)", true},
		{two, "(Proc, Int)", false},
		{two, "(Int, {a})", false},
		{two, "(Int, T)", false},
		{two, "Int", false},
		{one, "(T, {a})", true},
		{one, "(Proc, {a})", false},
		{none, "{Int}", true},
		{none, "{a}", false},
	} {
		if got := infer.Instance(c.scheme, declared(t, c.typ)); got != c.want {
			t.Errorf("Instance(%s, %s) = %v", show(c.scheme, nil), c.typ, got)
		}
	}
}

// R1, R2: arguments of any form are permitted, and not changed.
func TestInstanceOfOtherArguments(t *testing.T) {
	pair := list{{Kind: api.TypeTuple, Kids: 2}, {Kind: api.TypeVar}, {Kind: api.TypeVar, Num: 1}}
	invalid := list{{Kind: api.TypeTuple, Kids: 2}, {Kind: api.TypeVar}}
	for _, vars := range []int{math.MinInt, -1, 0, 1, 7, math.MaxInt} {
		for _, v := range []int{math.MinInt, -1, 0, 5, math.MaxInt} {
			a := api.Scheme{Vars: vars, Needs: []api.Need{{Var: v, Classes: api.ClassEq}, {Var: v, Classes: 99}, {Var: v, Classes: -1}}, Type: slices.Clone(pair)}
			b := slices.Clone(pair)
			if got, want := infer.Instance(a, b), v != 0 || vars < 1; got != want {
				t.Errorf("Instance(%v, %v) = %v", a, b, got)
			}
			if !slices.Equal(a.Type, pair) || !slices.Equal(b, pair) {
				t.Errorf("Instance changed its arguments")
			}
			if infer.Instance(a, nil) || infer.Instance(a, invalid) {
				t.Errorf("Instance accepts an invalid type for %v", a)
			}
			a.Type = invalid
			if infer.Instance(a, pair) {
				t.Errorf("Instance accepts an invalid scheme %v", a)
			}
		}
	}
	if infer.Instance(api.Scheme{}, nil) {
		t.Errorf("Instance accepts a scheme without a type")
	}
}
