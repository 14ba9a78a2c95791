package infer

import "cspcheck/api"

// builtin returns the scheme of a builtin, with variables of its own.
func (s *solver) builtin(name string) scheme {
	a, b := s.fresh(), s.fresh()
	t := builtinType(name, a, b)
	x := scheme{typ: t, quantified: s.variables(t)}
	if class := builtinClass(name); class != 0 {
		x.needs = []api.Need{{Var: a.node.Num, Classes: class}}
	}
	return x
}

// builtinType returns the type of a builtin whose variables are a and b.
func builtinType(name string, a, b *term) *term {
	m := mapping(a, b)
	switch name {
	case "union", "inter", "diff":
		return function(set(a), set(a), set(a))
	case "Union", "Inter":
		return function(set(set(a)), set(a))
	case "member":
		return function(a, set(a), boolean())
	case "card":
		return function(set(a), integer())
	case "empty":
		return function(set(a), boolean())
	case "set":
		return function(sequence(a), set(a))
	case "seq":
		return function(set(a), sequence(a))
	case "Set":
		return function(set(a), set(set(a)))
	case "head":
		return function(sequence(a), a)
	case "tail":
		return function(sequence(a), sequence(a))
	case "null":
		return function(sequence(a), boolean())
	case "elem":
		return function(a, sequence(a), boolean())
	case "length":
		return function(sequence(a), integer())
	case "concat":
		return function(sequence(sequence(a)), sequence(a))
	case "mapLookup":
		return function(m, a, b)
	case "mapMember":
		return function(m, a, boolean())
	case "mapUpdate":
		return function(m, a, b, m)
	case "mapDelete":
		return function(m, a, m)
	case "mapKeys":
		return function(m, set(a))
	case "Events":
		return set(event())
	case "Bool":
		return set(boolean())
	}
	return set(integer())
}

// builtinClass returns the class that the first variable of a builtin needs, or 0.
func builtinClass(name string) int {
	switch name {
	case "head", "tail", "null", "length", "concat", "Events", "Bool", "Int":
		return 0
	case "elem":
		return api.ClassEq
	}
	return api.ClassSet
}
