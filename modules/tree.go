package modules

import "cspcheck/api"

// tree is the list of the nodes of one tree with, for each node, the index behind its subtree. Nodes are given by their indices.
type tree struct {
	nodes []api.Node
	ends  []int
}

func newTree(p []api.Node) tree {
	t := tree{nodes: p, ends: make([]int, len(p))}
	for i := len(p) - 1; i >= 0; i-- {
		end := i + 1
		for range p[i].Kids {
			end = t.ends[end]
		}
		t.ends[i] = end
	}
	return t
}

func (t tree) kids(i int) []int {
	l := make([]int, t.nodes[i].Kids)
	next := i + 1
	for k := range l {
		l[k] = next
		next = t.ends[next]
	}
	return l
}

// subtree returns the nodes of the subtree of a node.
func (t tree) subtree(i int) []api.Node {
	return t.nodes[i:t.ends[i]]
}

// blocks returns the nodes whose children are the declarations of a node.
func (t tree) blocks(i int) []int {
	switch t.nodes[i].Op {
	case api.OpProgram:
		return []int{i}
	case api.OpLet:
		return t.kids(i)[:1]
	case api.OpTimed, api.OpModule:
		return t.kids(i)[1:]
	}
	return nil
}

// declarations returns the declarations of the blocks of a node.
func (t tree) declarations(i int) []int {
	var l []int
	for _, b := range t.blocks(i) {
		l = append(l, t.kids(b)...)
	}
	return l
}

// places returns for each node that is a declaration the operator of the node that has it in a block, and 0 for others.
func (t tree) places() []int {
	l := make([]int, len(t.nodes))
	for i, n := range t.nodes {
		for _, d := range t.declarations(i) {
			l[d] = n.Op
		}
	}
	return l
}

// isPermitted reports whether a node with an operator is permitted at a place. The place 0 is that of a node that is no declaration.
func isPermitted(place, op int) bool {
	switch op {
	case api.OpFun, api.OpBind, api.OpSig:
		return true
	case api.OpData, api.OpNametype, api.OpChannel, api.OpTimed:
		return place != api.OpLet && place != api.OpTimed
	}
	return place == api.OpProgram || place == 0
}
