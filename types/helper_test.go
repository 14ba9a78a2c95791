package types_test

import (
	"slices"
	"testing"

	"cspcheck/api"
	"cspcheck/types"
)

const maxNum = 1 << 30

type list = []api.TypeNode

// node returns a type of one node.
func node(kind int) list {
	return list{{Kind: kind}}
}

func integer() list { return node(api.TypeInt) }
func boolean() list { return node(api.TypeBool) }
func event() list   { return node(api.TypeEvent) }
func process() list { return node(api.TypeProc) }

func variable(n int) list { return list{{Kind: api.TypeVar, Num: n}} }
func data(n int) list     { return list{{Kind: api.TypeData, Num: n}} }

// with returns a type with parts.
func with(kind int, parts ...list) list {
	return slices.Concat(append([]list{{{Kind: kind, Kids: len(parts)}}}, parts...)...)
}

func sequence(t list) list         { return with(api.TypeSeq, t) }
func set(t list) list              { return with(api.TypeSet, t) }
func mapping(k, v list) list       { return with(api.TypeMap, k, v) }
func tuple(parts ...list) list     { return with(api.TypeTuple, parts...) }
func function(parts ...list) list  { return with(api.TypeFun, parts...) }
func dot(a, b list) list           { return with(api.TypeDot, a, b) }
func extension(a, b list) list     { return with(api.TypeExt, a, b) }
func copies(n int, t list) []list  { return slices.Repeat([]list{t}, n) }
func bind(v int, t list) []binding { return []binding{{Var: v, Type: t}} }

type binding = api.Binding

// nested returns sequences around a type.
func nested(n int, t list) list {
	return append(slices.Repeat(list{{Kind: api.TypeSeq, Kids: 1}}, n), t...)
}

// sized returns a type with as many nodes.
func sized(n int) list {
	switch n {
	case 1:
		return integer()
	case 2:
		return sequence(integer())
	}
	return tuple(sized((n-1)/2), sized(n-1-(n-1)/2))
}

// grouped returns nested tuples of types, from left to right.
func grouped(l []list) list {
	for len(l) > 1 {
		var groups []list
		for group := range slices.Chunk(l, api.MaxArity) {
			if len(group) == 1 {
				groups = append(groups, group[0])
			} else {
				groups = append(groups, tuple(group...))
			}
		}
		l = groups
	}
	return l[0]
}

// invalid returns lists that are not types.
func invalid() []list {
	return []list{
		nil,
		{},
		sequence(nil),
		sequence(variable(-1)),
		set(variable(maxNum + 1)),
		append(integer(), variable(0)...),
		tuple(variable(0)),
		node(0),
		{{Kind: api.TypeSeq, Kids: 1 << 62}, {Kind: api.TypeInt}},
		{{Kind: api.TypeSeq, Kids: -1}},
		{{Kind: api.TypeVar, Kids: -1}},
		sized(api.MaxTypeNodes + 1),
		nested(api.MaxNest, variable(0)),
	}
}

func equalBindings(a, b []binding) bool {
	return slices.EqualFunc(a, b, func(x, y binding) bool { return x.Var == y.Var && slices.Equal(x.Type, y.Type) })
}

func cloneBindings(s []binding) []binding {
	s = slices.Clone(s)
	for i := range s {
		s[i].Type = slices.Clone(s[i].Type)
	}
	return s
}

// scribble overwrites the types of bindings, also behind their ends.
func scribble(s []binding) {
	for _, b := range s {
		l := b.Type[:cap(b.Type)]
		for i := range l {
			l[i] = api.TypeNode{Kind: -7, Num: -7, Kids: -7}
		}
	}
}

// apply returns the result of Apply. It checks that it is a type and that the arguments have not changed.
func apply(t *testing.T, s []binding, x list) list {
	t.Helper()
	oldS, oldX := cloneBindings(s), slices.Clone(x)
	got := types.Apply(s, x)
	if !equalBindings(s, oldS) || !slices.Equal(x, oldX) {
		t.Fatalf("Apply changed its arguments %v, %v", oldS, oldX)
	}
	if len(got) != 0 && !types.Valid(got) {
		t.Fatalf("Apply(%v, %v) = %v is not a type", s, x, got)
	}
	return got
}

// wantApply checks the result of Apply, an empty one if nothing is wanted.
func wantApply(t *testing.T, s []binding, x, want list) {
	t.Helper()
	if got := apply(t, s, x); !slices.Equal(got, want) {
		t.Errorf("Apply(%v, %v) = %v, want %v", s, x, got, want)
	}
}

// unify returns the result of Unify. It checks that it is a substitution of variables of a and b as P7.3 says, and that the arguments have not changed.
func unify(t *testing.T, a, b list) ([]binding, api.Errno) {
	t.Helper()
	oldA, oldB := slices.Clone(a), slices.Clone(b)
	s, e := types.Unify(a, b)
	if !slices.Equal(a, oldA) || !slices.Equal(b, oldB) {
		t.Fatalf("Unify changed its arguments %v, %v", oldA, oldB)
	}
	if e != api.OK {
		if len(s) != 0 {
			t.Errorf("Unify(%v, %v) = %v with error %d", a, b, s, e)
		}
		return nil, e
	}
	replaced := map[int]bool{}
	variables := types.Vars(append(slices.Clone(a), b...))
	for i, x := range s {
		replaced[x.Var] = true
		if i > 0 && s[i-1].Var >= x.Var || !slices.Contains(variables, x.Var) || !types.Valid(x.Type) {
			t.Errorf("Unify(%v, %v) = %v is not a substitution of their variables", a, b, s)
		}
	}
	for _, x := range s {
		if slices.ContainsFunc(types.Vars(x.Type), func(v int) bool { return replaced[v] }) {
			t.Errorf("Unify(%v, %v) = %v: the type of %d has a variable that is replaced", a, b, s, x.Var)
		}
		if n := x.Type[0]; n.Kind == api.TypeVar && n.Num >= x.Var {
			t.Errorf("Unify(%v, %v) = %v: the variable %d is replaced by a greater one", a, b, s, x.Var)
		}
	}
	if x, y := apply(t, s, a), apply(t, s, b); len(x) == 0 || !slices.Equal(x, y) {
		t.Errorf("Unify(%v, %v) = %v, but they become %v and %v", a, b, s, x, y)
	}
	return s, api.OK
}

// wantUnify checks the most general unifier of two types, in both orders.
func wantUnify(t *testing.T, a, b list, want ...binding) {
	t.Helper()
	for range 2 {
		if s, e := unify(t, a, b); e != api.OK || !equalBindings(s, want) {
			t.Errorf("Unify(%v, %v) = %v, error %d, want %v", a, b, s, e, want)
		}
		a, b = b, a
	}
}

// wantError checks that two types have no unifier, in both orders.
func wantError(t *testing.T, a, b list, want api.Errno) {
	t.Helper()
	for range 2 {
		if s, e := unify(t, a, b); e != want {
			t.Errorf("Unify(%v, %v) = %v, error %d, want error %d", a, b, s, e, want)
		}
		a, b = b, a
	}
}

// match returns the result of Match. It checks that the arguments have not changed.
func match(t *testing.T, a, b list) ([]binding, bool) {
	t.Helper()
	oldA, oldB := slices.Clone(a), slices.Clone(b)
	s, ok := types.Match(a, b)
	if !slices.Equal(a, oldA) || !slices.Equal(b, oldB) {
		t.Fatalf("Match changed its arguments %v, %v", oldA, oldB)
	}
	if !ok && len(s) != 0 {
		t.Errorf("Match(%v, %v) = %v, false", a, b, s)
	}
	return s, ok
}

func wantMatch(t *testing.T, a, b list, want ...binding) {
	t.Helper()
	if s, ok := match(t, a, b); !ok || !equalBindings(s, want) {
		t.Errorf("Match(%v, %v) = %v, %v, want %v", a, b, s, ok, want)
	}
}

func wantNoMatch(t *testing.T, a, b list) {
	t.Helper()
	if s, ok := match(t, a, b); ok {
		t.Errorf("Match(%v, %v) = %v, want none", a, b, s)
	}
}
