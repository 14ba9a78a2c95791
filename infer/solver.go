package infer

import (
	"cspcheck/api"
	"cspcheck/types"
)

// solver numbers fresh variables, and holds the replacements of variables that the equations so far have required. A variable in a replacement may be replaced, too.
type solver struct {
	next  int     // the number of the next fresh variable
	terms []*term // by variable, what replaces it, or nil
}

func (s *solver) fresh() *term {
	v := variable(s.next)
	s.next++
	s.terms = append(s.terms, nil)
	return v
}

// head returns a term after all replacements of the variable that it may be, but not of those in its parts.
func (s *solver) head(t *term) *term {
	last := t
	for last.isVar() && s.terms[last.node.Num] != nil {
		last = s.terms[last.node.Num]
	}
	// Without this, long chains of variables could be followed again and again.
	for t != last {
		n := t.node.Num
		t, s.terms[n] = s.terms[n], last
	}
	return last
}

// equate makes two terms equal by replacements. A type that is too large for an equation is ErrFull.
func (s *solver) equate(a, b *term) api.Errno {
	l, e := types.Unify(s.list(a), s.list(b))
	for _, binding := range l {
		s.terms[binding.Var], _ = termOf(binding.Type)
	}
	if e == api.ErrInvalid {
		return api.ErrFull
	}
	return e
}

// list returns the type that a term is after all replacements. If it is not valid, because it is too large or too deep, or a function with too many parameters, the list is not valid, either.
func (s *solver) list(t *term) []api.TypeNode {
	l, ok := s.appendTo(nil, t, api.MaxNest)
	if !ok {
		return nil
	}
	return l
}

// appendTo appends a type to the first nodes of another one. It stops as soon as this one has too many nodes, or the appended one is nested more than nest deep: without limits, the type could be exponentially large.
func (s *solver) appendTo(l []api.TypeNode, t *term, nest int) ([]api.TypeNode, bool) {
	if nest == 0 || len(l) == api.MaxTypeNodes {
		return nil, false
	}
	t = s.head(t)
	l, ok := append(l, t.node), true
	for _, kid := range t.kids {
		l, ok = s.appendTo(l, kid, nest-1)
		if !ok {
			return nil, false
		}
	}
	return l, true
}

// variables returns the variables of a term after all replacements, in the order of their first occurrence.
func (s *solver) variables(t *term) []int {
	return s.appendVariables(nil, t, make([]bool, s.next))
}

// appendVariables appends the variables that have not been seen yet. What replaces a variable is looked at once only.
func (s *solver) appendVariables(l []int, t *term, seen []bool) []int {
	if t.isVar() {
		n := t.node.Num
		if seen[n] {
			return l
		}
		seen[n] = true
		if s.terms[n] == nil {
			return append(l, n)
		}
		return s.appendVariables(l, s.terms[n], seen)
	}
	for _, kid := range t.kids {
		l = s.appendVariables(l, kid, seen)
	}
	return l
}

// renamed returns a term with other terms in the places of variables. It adds to these terms: the variables that are replaced occur with copies of their replacements, of which there is one each.
func (s *solver) renamed(t *term, by map[int]*term) *term {
	if t.isVar() {
		n := t.node.Num
		if by[n] == nil {
			by[n] = t
			if s.terms[n] != nil {
				by[n] = s.renamed(s.terms[n], by)
			}
		}
		return by[n]
	}
	copied := &term{node: t.node}
	for _, kid := range t.kids {
		copied.kids = append(copied.kids, s.renamed(kid, by))
	}
	return copied
}
