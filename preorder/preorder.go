// Package preorder finds the parts of a syntax tree, which is a list of nodes in preorder. It serves the layers that read trees.
package preorder

import "cspcheck/api"

// Tree is the list of the nodes of one tree with, for each node, the index behind its subtree. Nodes are given by their indices.
type Tree struct {
	Nodes []api.Node
	Ends  []int
}

// New returns the Tree of a list of nodes, which must be one tree. The list is not copied.
func New(p []api.Node) Tree {
	t := Tree{Nodes: p, Ends: make([]int, len(p))}
	for i := len(p) - 1; i >= 0; i-- {
		end := i + 1
		for range p[i].Kids {
			end = t.Ends[end]
		}
		t.Ends[i] = end
	}
	return t
}

// Kids returns the children of a node.
func (t Tree) Kids(i int) []int {
	l := make([]int, t.Nodes[i].Kids)
	next := i + 1
	for k := range l {
		l[k] = next
		next = t.Ends[next]
	}
	return l
}

// Subtree returns the nodes of the subtree of a node.
func (t Tree) Subtree(i int) []api.Node {
	return t.Nodes[i:t.Ends[i]]
}
