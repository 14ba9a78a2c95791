package types

import "cspcheck/api"

// term is a type as a tree.
type term struct {
	node   api.TypeNode
	kids   []*term
	same   *term // an equal term that stands for this one, or nil
	search int   // the number of the last search that came here
}

// termOf returns the type that begins a list as a term, and the nodes behind it. There must be one.
func termOf(t []api.TypeNode) (*term, []api.TypeNode) {
	x := &term{node: t[0]}
	rest := t[1:]
	for range x.node.Kids {
		var kid *term
		kid, rest = termOf(rest)
		x.kids = append(x.kids, kid)
	}
	return x, rest
}

func (x *term) isVar() bool {
	return x.node.Kind == api.TypeVar
}

// solution holds the replacements that unification has made so far. A variable in one of these terms may be replaced, too: replacing it there at once could make the terms exponentially large.
type solution struct {
	terms    map[int]*term // by variable
	searches int
}

// replaced returns the term that stands for x after all replacements. Variables in its parts may be replaced, too.
func (s *solution) replaced(x *term) *term {
	for {
		next := x.same
		if x.isVar() {
			next = s.terms[x.node.Num]
		}
		if next == nil {
			return x
		}
		x = next
	}
}

// unify makes two terms equal by replacements, or returns the first error.
func (s *solution) unify(x, y *term) api.Errno {
	x, y = s.replaced(x), s.replaced(y)
	switch {
	case x == y || x.isVar() && x.node == y.node:
		return api.OK
	case y.isVar() && (!x.isVar() || x.node.Num < y.node.Num):
		return s.replace(y, x)
	case x.isVar():
		return s.replace(x, y)
	case x.node != y.node:
		return api.ErrType
	}
	for i, kid := range x.kids {
		if e := s.unify(kid, y.kids[i]); e != api.OK {
			return e
		}
	}
	// Without this, terms with shared parts could be compared exponentially often.
	x.same = y
	return api.OK
}

// replace replaces a variable by another term.
func (s *solution) replace(variable, by *term) api.Errno {
	s.searches++
	if s.finds(variable, by) {
		return api.ErrInfinite
	}
	s.terms[variable.node.Num] = by
	return api.OK
}

// finds reports whether a variable occurs in those parts of a term to which the search at hand has not come before.
func (s *solution) finds(variable, x *term) bool {
	x = s.replaced(x)
	if x.search == s.searches {
		return false
	}
	x.search = s.searches
	if x.node == variable.node {
		return true
	}
	for _, kid := range x.kids {
		if s.finds(variable, kid) {
			return true
		}
	}
	return false
}

// substitution returns the types of all replaced variables. They must be valid.
func (s *solution) substitution() substitution {
	types := substitution{}
	for v, x := range s.terms {
		types[v], _ = s.typeOf(x)
	}
	return types
}

// typeOf returns the type that a term is after all replacements, or false if it is not valid.
func (s *solution) typeOf(x *term) ([]api.TypeNode, bool) {
	return s.appendType(nil, x, api.MaxNest)
}

// appendType appends a type to the first nodes of another one. It stops as soon as this one has too many nodes, or the appended one is nested more than nest deep: without limits, the type could be exponentially large.
func (s *solution) appendType(t []api.TypeNode, x *term, nest int) ([]api.TypeNode, bool) {
	if nest == 0 || len(t) == api.MaxTypeNodes {
		return nil, false
	}
	x = s.replaced(x)
	t, ok := append(t, x.node), true
	for _, kid := range x.kids {
		t, ok = s.appendType(t, kid, nest-1)
		if !ok {
			return nil, false
		}
	}
	return t, true
}
