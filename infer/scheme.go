package infer

import "cspcheck/api"

// maxAnswer is how many nodes of types a result may have: as many as fit into 2^31 - 1 bytes.
const maxAnswer = (1<<31 - 1) / 24

// scheme is the type of a symbol with the variables that are quantified, in the order of their first occurrence, and the classes that these need.
type scheme struct {
	typ        *term
	quantified []int
	needs      []api.Need
}

// instance returns the type of a symbol with fresh variables in the places of quantified ones. Their classes are required at a node.
func (x *program) instance(i int, s scheme) *term {
	if len(s.quantified) == 0 {
		return s.typ
	}
	by := map[int]*term{}
	for _, v := range s.quantified {
		by[v] = x.fresh()
	}
	for _, n := range s.needs {
		x.need(i, by[n.Var], n.Classes)
	}
	return x.renamed(s.typ, by)
}

// results returns the schemes of all symbols after the inference. It gives up on types of a size about which nothing is promised.
func (x *program) results() ([]api.Scheme, api.Pos, api.Errno) {
	sizes := map[int]int{}
	left := maxAnswer
	var l []api.Scheme
	for _, s := range x.schemes {
		size := x.size(s.typ, sizes)
		if size > left {
			return nil, api.Pos{}, api.ErrFull
		}
		left -= size
		l = append(l, x.result(s, size))
	}
	return l, api.Pos{}, api.OK
}

// size returns the number of nodes of a term after all replacements, or one that is greater than maxAnswer. Those of what replaces variables are kept.
func (x *program) size(t *term, sizes map[int]int) int {
	if t.isVar() {
		n := t.node.Num
		if x.terms[n] == nil {
			return 1
		}
		if sizes[n] == 0 {
			sizes[n] = x.size(x.terms[n], sizes)
		}
		return sizes[n]
	}
	size := 1
	for _, kid := range t.kids {
		size = min(size+x.size(kid, sizes), maxAnswer+1)
	}
	return size
}

// result returns a scheme whose type has a size, with its variables renumbered: first the quantified ones, then the others.
func (x *program) result(s scheme, size int) api.Scheme {
	numbers := map[int]int{}
	for _, v := range s.quantified {
		numbers[v] = len(numbers)
	}
	a := api.Scheme{Vars: len(s.quantified), Type: x.appendNumbered(make([]api.TypeNode, 0, size), s.typ, numbers)}
	for _, n := range s.needs {
		a.Needs = append(a.Needs, api.Need{Var: numbers[n.Var], Classes: n.Classes})
	}
	return a
}

// appendNumbered appends a type with its variables renumbered. Those that have no number yet get the next ones.
func (x *program) appendNumbered(l []api.TypeNode, t *term, numbers map[int]int) []api.TypeNode {
	t = x.head(t)
	if t.isVar() {
		n := t.node.Num
		if _, ok := numbers[n]; !ok {
			numbers[n] = len(numbers)
		}
		return append(l, api.TypeNode{Kind: api.TypeVar, Num: numbers[n]})
	}
	l = append(l, t.node)
	for _, kid := range t.kids {
		l = x.appendNumbered(l, kid, numbers)
	}
	return l
}
