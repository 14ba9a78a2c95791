package infer

import "cspcheck/api"

// term is a type as a tree, before the replacements of its variables.
type term struct {
	node api.TypeNode
	kids []*term
}

// join returns a type with parts.
func join(kind int, kids ...*term) *term {
	return &term{node: api.TypeNode{Kind: kind, Kids: len(kids)}, kids: kids}
}

func variable(n int) *term {
	return &term{node: api.TypeNode{Kind: api.TypeVar, Num: n}}
}

// data returns the type of a datatype with the number of its symbol.
func data(n int) *term {
	return &term{node: api.TypeNode{Kind: api.TypeData, Num: n}}
}

func integer() *term { return join(api.TypeInt) }
func boolean() *term { return join(api.TypeBool) }
func event() *term   { return join(api.TypeEvent) }
func process() *term { return join(api.TypeProc) }

func sequence(t *term) *term       { return join(api.TypeSeq, t) }
func set(t *term) *term            { return join(api.TypeSet, t) }
func mapping(key, to *term) *term  { return join(api.TypeMap, key, to) }
func tuple(parts ...*term) *term   { return join(api.TypeTuple, parts...) }
func extension(by, to *term) *term { return join(api.TypeExt, by, to) }

// function returns the type of a function with the types of its parameters and, behind them, that of its result.
func function(parts ...*term) *term { return join(api.TypeFun, parts...) }

func (t *term) isVar() bool {
	return t.node.Kind == api.TypeVar
}

// termOf returns the type that begins a list as a term, and the nodes behind it. There must be one.
func termOf(l []api.TypeNode) (*term, []api.TypeNode) {
	t := &term{node: l[0]}
	rest := l[1:]
	for range t.node.Kids {
		var kid *term
		kid, rest = termOf(rest)
		t.kids = append(t.kids, kid)
	}
	return t, rest
}
