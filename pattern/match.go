package pattern

import (
	"slices"

	"cspcheck/api"
	"cspcheck/value"
)

// A matcher matches a pattern with a value and collects the values of the variables.
type matcher struct {
	pattern []api.Code
	vars    []api.Value
	opened  map[api.Value]opened
}

// opened is what a valid value consists of.
type opened struct {
	kind  int
	parts []api.Value
}

// match matches the pattern at index i with v and returns where the pattern ends, or none if v does not match.
func (m *matcher) match(i int, v api.Value) int {
	node := m.pattern[i]
	if node.Op == api.PatVar {
		m.vars = append(m.vars, v)
	}
	l, ok := m.split(node, v)
	if !ok {
		return none
	}
	i++
	for _, part := range l {
		i = m.match(i, part)
		if i == none {
			return none
		}
	}
	return i
}

// split returns the values with which the children of a node must match for v to match, or false if v does not match whatever they are.
func (m *matcher) split(node api.Code, v api.Value) ([]api.Value, bool) {
	switch node.Op {
	case api.PatVar, api.PatWild:
		return nil, true
	case api.PatInt:
		return nil, v == value.Int(node.Int)
	case api.PatBool:
		return nil, v == value.Bool(node.Int == 1)
	case api.PatTuple:
		return m.exactly(node.Kids, v, api.ValTuple)
	case api.PatSeq:
		return m.exactly(node.Kids, v, api.ValSeq)
	case api.PatSet:
		return m.exactly(node.Kids, v, api.ValSet)
	case api.PatCat:
		return m.around(int(node.Int), node.Kids-1, v)
	case api.PatDot:
		return m.fields(node, v)
	case api.PatBoth:
		return []api.Value{v, v}, true
	}
	return nil, false
}

// open returns what a value consists of. It does so only once for a value with which many parts of a pattern are matched, because that takes as long as the value is.
func (m *matcher) open(v api.Value) opened {
	o, known := m.opened[v]
	if !known {
		o = opened{kind: value.Kind(v), parts: value.Parts(v)}
		m.opened[v] = o
	}
	return o
}

// exactly returns the parts of a value of a kind with n parts.
func (m *matcher) exactly(n int, v api.Value, kind int) ([]api.Value, bool) {
	o := m.open(v)
	if o.kind != kind || len(o.parts) != n {
		return nil, false
	}
	return o.parts, true
}

// around returns the first elements of a sequence, the sequence of the others, and the last elements, n first and last ones in all.
func (m *matcher) around(first, n int, v api.Value) ([]api.Value, bool) {
	o := m.open(v)
	if o.kind != api.ValSeq || len(o.parts) < n {
		return nil, false
	}
	last := len(o.parts) - (n - first)
	rest := value.Seq(o.parts[first:last])
	return slices.Concat(o.parts[:first], []api.Value{rest}, o.parts[last:]), true
}

// fields returns the fields of a dotted value with the name and as many fields as a PatDot has.
func (m *matcher) fields(dot api.Code, v api.Value) ([]api.Value, bool) {
	o := m.open(v)
	if o.kind != api.ValDot || len(o.parts)-1 != dot.Kids || value.Number(o.parts[0]) != dot.Int {
		return nil, false
	}
	return o.parts[1:], true
}
