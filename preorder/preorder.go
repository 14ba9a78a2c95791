// Package preorder finds the parts of trees of syntax and of code, which are lists of nodes in preorder. It serves the layers that read them.
package preorder

import "cspcheck/api"

// Tree is the list of the nodes of one tree with, for each node, the index behind its subtree. Nodes are given by their indices.
type Tree struct {
	Nodes []api.Node
	Ends  []int
}

// New returns the Tree of a list of nodes, which must be one tree. The list is not copied.
func New(p []api.Node) Tree {
	ends, _ := endsOf(p, func(n api.Node) int { return n.Kids })
	return Tree{Nodes: p, Ends: ends}
}

// Kids returns the children of a node.
func (t Tree) Kids(i int) []int {
	return kidsOf(t.Ends, i, t.Nodes[i].Kids)
}

// Subtree returns the nodes of the subtree of a node.
func (t Tree) Subtree(i int) []api.Node {
	return t.Nodes[i:t.Ends[i]]
}

// InScopeOrder returns the children of a node in such an order that the names that one of them binds are visible in later ones only: a source before its pattern, and generators before what they generate.
func (t Tree) InScopeOrder(i int) []int {
	kids := t.Kids(i)
	switch t.Nodes[i].Op {
	case api.OpGen, api.OpInput, api.OpSome, api.OpSeqComp, api.OpSetComp, api.OpEvComp:
		return append(kids[1:], kids[0])
	case api.OpParams:
		return t.withPairsLast(kids)
	}
	return kids
}

// withPairsLast returns nodes with the Pairs among them behind the others. Those of a Rename stand before its generators.
func (t Tree) withPairsLast(nodes []int) []int {
	var pairs, others []int
	for _, i := range nodes {
		if t.Nodes[i].Op == api.OpPair {
			pairs = append(pairs, i)
		} else {
			others = append(others, i)
		}
	}
	return append(others, pairs...)
}

// End returns the index behind the subtree of node i. The list may be anything: the index is never beyond its end.
func End(p []api.Node, i int) int {
	for missing := 1; missing > 0 && i < len(p); i++ {
		missing += p[i].Kids - 1
	}
	return i
}

// Kids returns the children of node i. The list may be anything: they are indices of nodes behind node i.
func Kids(p []api.Node, i int) []int {
	var l []int
	end := End(p, i)
	for k := i + 1; k < end; k = End(p, k) {
		l = append(l, k)
	}
	return l
}
