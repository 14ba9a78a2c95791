package timed

import (
	"slices"
	"strconv"

	"cspcheck/api"
	"cspcheck/preorder"
)

// event returns the event that a Prefix performs, as an expression in which its inputs are visible.
func (x *translator) event(i int, parts [][]api.Node) []api.Node {
	kids := x.Kids(i)
	l := parts[0]
	for k := 1; k < len(kids)-1; k++ {
		sent := parts[k][1:] // what follows the node of an Output
		if x.Nodes[kids[k]].Op != api.OpOutput {
			sent = x.withoutBoths(kids[k] + 1)
		}
		l = place(x.Nodes[i].Pos).node(api.OpDot, l, sent)
	}
	return l
}

// withoutBoths returns a pattern with the left operands of its Boths in their places.
func (x *translator) withoutBoths(i int) []api.Node {
	for x.Nodes[i].Op == api.OpBoth {
		i++
	}
	l := []api.Node{x.Nodes[i]}
	for _, kid := range x.Kids(i) {
		l = append(l, x.withoutBoths(kid)...)
	}
	return l
}

// withNamedWilds returns a program in which each Wild in the inputs of a Prefix has got a name.
func withNamedWilds(t preorder.Tree) preorder.Tree {
	nodes := slices.Clone(t.Nodes)
	for i, n := range nodes {
		if n.Op == api.OpPrefix {
			nameWilds(t, i, nodes)
		}
	}
	return preorder.Tree{Nodes: nodes, Ends: t.Ends}
}

// nameWilds replaces the Wilds in the inputs of a Prefix by names, which are numbered. All nodes stay in their places.
func nameWilds(t preorder.Tree, prefix int, nodes []api.Node) {
	wilds := 0
	for _, field := range t.Kids(prefix) {
		if op := nodes[field].Op; op != api.OpInput && op != api.OpSome {
			continue
		}
		pattern := field + 1
		for i := pattern; i < t.Ends[pattern]; i++ {
			if nodes[i].Op == api.OpWild {
				nodes[i].Op = api.OpName
				nodes[i].Str = ownPrefix + strconv.Itoa(wilds)
				wilds++
			}
		}
	}
}
