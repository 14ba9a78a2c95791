package timed

import (
	"slices"

	"cspcheck/api"
	"cspcheck/preorder"
)

// translator translates the declarations of timed sections.
type translator struct {
	preorder.Tree        // the program, with names in the places of the Wilds of inputs
	delay         string // the name of the delay function of the current section
	size          int    // the number of the nodes of the translations so far
}

// translated returns the translation of a program with timed sections, or nil if it has too many nodes.
func translated(t preorder.Tree) []api.Node {
	first := slices.IndexFunc(t.Nodes, isTimed)
	before := place(t.Nodes[first].Pos).preamble()
	var after [][]api.Node
	x := &translator{Tree: withNamedWilds(t)}
	sections := 0
	for _, d := range t.Kids(0) {
		if !isTimed(t.Nodes[d]) {
			after = append(after, t.Subtree(d))
			continue
		}
		kids := t.Kids(d)
		x.delay = delayName(sections)
		before = append(before, place(t.Nodes[d].Pos).delay(x.delay, t.Nodes[kids[0]].Str))
		after = append(after, x.parts(kids[1])...)
		sections++
	}
	if x.isFull() {
		return nil
	}
	return place(t.Nodes[0].Pos).node(api.OpProgram, slices.Concat(before, after)...)
}

// isFull reports whether the translations have too many nodes. Because a translation may contain a part twice, there would soon be very many of them.
func (x *translator) isFull() bool {
	return x.size > api.MaxNodes
}

// translate returns the translation of the subtree of a node. If there are too many nodes, it may return nil.
func (x *translator) translate(i int) []api.Node {
	if x.isFull() {
		return nil
	}
	before := x.size
	parts := x.parts(i)
	if x.isFull() {
		return nil
	}
	l := x.withParts(i, parts)
	x.size = before + len(l)
	return l
}

// parts returns the translations of the children of a node.
func (x *translator) parts(i int) [][]api.Node {
	var l [][]api.Node
	for _, kid := range x.Kids(i) {
		l = append(l, x.translate(kid))
	}
	return l
}

// withParts returns the translation of a node from those of its children.
func (x *translator) withParts(i int, parts [][]api.Node) []api.Node {
	n := x.Nodes[i]
	at := place(n.Pos)
	switch n.Op {
	case api.OpStop:
		return at.own("stop")
	case api.OpSkip:
		return at.own("skip")
	case api.OpPrefix:
		return x.prefix(i, parts)
	case api.OpGuard:
		return at.node(api.OpIf, parts[0], parts[1], at.own("stop"))
	case api.OpExtern:
		return at.node(api.OpSync, parts[0], at.tocks(), parts[1])
	case api.OpInter:
		return at.node(api.OpParallel, parts[0], at.tocks(), parts[1])
	case api.OpSync, api.OpParallel:
		return at.node(n.Op, parts[0], at.withTock(parts[1]), parts[2])
	case api.OpAlpha:
		return at.node(n.Op, parts[0], at.withTock(parts[1]), at.withTock(parts[2]), parts[3])
	case api.OpHide:
		return at.node(n.Op, parts[0], at.call(at.own("diff"), parts[1], at.tocks()))
	case api.OpRepeat:
		return at.replicated(int(n.Int), parts)
	}
	return at.root(n, parts...)
}

// replicated returns the translation of a replicated operator from those of its parts.
func (at place) replicated(op int, parts [][]api.Node) []api.Node {
	switch op {
	case api.OpExtern:
		return at.repeat(api.OpSync, at.tocks(), parts[0], parts[1])
	case api.OpInter:
		return at.repeat(api.OpParallel, at.tocks(), parts[0], parts[1])
	case api.OpParallel, api.OpSync:
		return at.repeat(op, at.withTock(parts[0]), parts[1], parts[2])
	case api.OpAlpha:
		return at.repeat(op, parts[0], at.withTock(parts[1]), parts[2])
	}
	return at.repeat(op, parts...)
}

// prefix returns the translation of a Prefix from those of its parts: the event is offered until it or tock occurs, and is followed by its delay.
func (x *translator) prefix(i int, parts [][]api.Node) []api.Node {
	at := place(x.Nodes[i].Pos)
	last := len(parts) - 1
	event := x.event(i, parts)
	here := at.own("here")
	later := at.call(at.own("wait"), at.call(at.own(x.delay), event), parts[last])
	now := at.node(api.OpPrefix, append(slices.Clone(parts[:last]), later)...)
	body := at.node(api.OpExtern, now, at.node(api.OpPrefix, at.own("tock"), here))
	return at.node(api.OpLet, at.node(api.OpBlock, at.fun("here", body)), here)
}
