package modules

import (
	"cspcheck/api"
	"cspcheck/preorder"
)

// tree is a tree of which the declarations are known, too.
type tree struct {
	preorder.Tree
}

func newTree(p []api.Node) tree {
	return tree{preorder.New(p)}
}

// blocks returns the nodes whose children are the declarations of a node.
func (t tree) blocks(i int) []int {
	switch t.Nodes[i].Op {
	case api.OpProgram:
		return []int{i}
	case api.OpLet:
		return t.Kids(i)[:1]
	case api.OpTimed, api.OpModule:
		return t.Kids(i)[1:]
	}
	return nil
}

// declarations returns the declarations of the blocks of a node.
func (t tree) declarations(i int) []int {
	var l []int
	for _, b := range t.blocks(i) {
		l = append(l, t.Kids(b)...)
	}
	return l
}

// places returns for each node that is a declaration the operator of the node that has it in a block, and 0 for others.
func (t tree) places() []int {
	l := make([]int, len(t.Nodes))
	for i, n := range t.Nodes {
		for _, d := range t.declarations(i) {
			l[d] = n.Op
		}
	}
	return l
}

// isPermitted reports whether a node with an operator is permitted at a place. The place 0 is that of a node that is no declaration.
func isPermitted(place, op int) bool {
	switch op {
	case api.OpFun, api.OpBind, api.OpSig:
		return true
	case api.OpData, api.OpNametype, api.OpChannel, api.OpTimed:
		return place != api.OpLet && place != api.OpTimed
	}
	return place == api.OpProgram || place == 0
}
