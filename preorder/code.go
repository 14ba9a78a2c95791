package preorder

import "cspcheck/api"

// Code is the list of the nodes of one tree of code with, for each node, the index behind its subtree. Nodes are given by their indices.
type Code struct {
	Nodes []api.Code
	Ends  []int
}

// NewCode returns the Code of a list of nodes, or false if this is not one tree. The list is not copied.
func NewCode(l []api.Code) (Code, bool) {
	ends, ok := endsOf(l, func(n api.Code) int { return n.Kids })
	if !ok {
		return Code{}, false
	}
	return Code{Nodes: l, Ends: ends}, true
}

// Kids returns the children of a node.
func (t Code) Kids(i int) []int {
	return kidsOf(t.Ends, i, t.Nodes[i].Kids)
}

// Subtree returns the nodes of the subtree of a node.
func (t Code) Subtree(i int) []api.Code {
	return t.Nodes[i:t.Ends[i]]
}

// Depth returns how many nodes lie on the longest way from the root to a node.
func (t Code) Depth() int {
	deepest := 0
	var open []int // the ends of the subtrees in which the current node lies
	for i, end := range t.Ends {
		for len(open) > 0 && open[len(open)-1] <= i {
			open = open[:len(open)-1]
		}
		open = append(open, end)
		deepest = max(deepest, len(open))
	}
	return deepest
}

// endsOf returns for each node of a list in preorder the index behind its subtree, and whether the list is one tree.
func endsOf[N any](l []N, kids func(N) int) ([]int, bool) {
	ends := make([]int, len(l))
	for i := len(l) - 1; i >= 0; i-- {
		missing := kids(l[i])
		end := i + 1
		for ; missing > 0 && end < len(l); missing-- {
			end = ends[end]
		}
		if missing != 0 {
			return nil, false
		}
		ends[i] = end
	}
	return ends, len(l) > 0 && ends[0] == len(l)
}

// kidsOf returns the children of node i, of which there are n.
func kidsOf(ends []int, i, n int) []int {
	l := make([]int, n)
	next := i + 1
	for k := range l {
		l[k] = next
		next = ends[next]
	}
	return l
}
