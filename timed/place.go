package timed

import "cspcheck/api"

// place makes new nodes: all that it makes have its position. A list of nodes that one of its functions takes or returns is one tree.
type place api.Pos

func (at place) root(n api.Node, kids ...[]api.Node) []api.Node {
	n.Kids = len(kids)
	n.Pos = api.Pos(at)
	l := []api.Node{n}
	for _, kid := range kids {
		l = append(l, kid...)
	}
	return l
}

func (at place) node(op int, kids ...[]api.Node) []api.Node {
	return at.root(api.Node{Op: op}, kids...)
}

func (at place) repeat(op int, kids ...[]api.Node) []api.Node {
	return at.root(api.Node{Op: api.OpRepeat, Int: int64(op)}, kids...)
}

func (at place) number(n int64) []api.Node {
	return at.root(api.Node{Op: api.OpInt, Int: n})
}

// name returns a name of the source.
func (at place) name(s string) []api.Node {
	return at.root(api.Node{Op: api.OpName, Str: s})
}

// own returns a name that no source can contain.
func (at place) own(s string) []api.Node {
	return at.name(ownPrefix + s)
}

func (at place) call(function []api.Node, arguments ...[]api.Node) []api.Node {
	return at.node(api.OpApply, append([][]api.Node{function}, arguments...)...)
}

// fun returns the declaration of a function with a name that no source can contain.
func (at place) fun(name string, body []api.Node, parameters ...[]api.Node) []api.Node {
	list := place{}.node(api.OpParams, parameters...)
	return at.root(api.Node{Op: api.OpFun, Str: ownPrefix + name}, list, body)
}

// tocks returns the set of the event tock.
func (at place) tocks() []api.Node {
	return at.node(api.OpSet, at.own("tock"))
}

// withTock returns the union of a set and the set of the event tock.
func (at place) withTock(set []api.Node) []api.Node {
	return at.call(at.own("union"), set, at.tocks())
}
