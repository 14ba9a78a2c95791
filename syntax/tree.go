package syntax

import "cspcheck/api"

// tree is a syntax tree in memory: its root, the subtrees below it, the number of its nodes, and how deeply they are nested.
type tree struct {
	node  api.Node
	kids  []*tree
	size  int
	depth int
}

// join returns the tree of a root and the subtrees below it.
func join(root api.Node, kids ...*tree) *tree {
	root.Kids = len(kids)
	t := &tree{node: root, kids: kids, size: 1, depth: 1}
	for _, k := range kids {
		t.size += k.size
		t.depth = max(t.depth, k.depth+1)
	}
	return t
}

// params returns a list of subtrees as one tree, which has no position.
func params(kids []*tree) *tree {
	return join(api.Node{Op: api.OpParams}, kids...)
}

// appendTo appends the nodes of t in preorder.
func (t *tree) appendTo(l []api.Node) []api.Node {
	l = append(l, t.node)
	for _, k := range t.kids {
		l = k.appendTo(l)
	}
	return l
}

// grow returns the tree of a list of nodes in preorder. It returns nil if the list is not one tree, or is too large or too deep.
func grow(p []api.Node) *tree {
	if len(p) > api.MaxNodes {
		return nil
	}
	t, rest := growFirst(p, 1)
	if len(rest) > 0 {
		return nil
	}
	return t
}

// growFirst returns the tree that begins a list and the nodes behind it. The depth is that of its root.
func growFirst(p []api.Node, depth int) (*tree, []api.Node) {
	if len(p) == 0 || depth > api.MaxNest || p[0].Kids < 0 || p[0].Kids >= len(p) {
		return nil, nil
	}
	root, rest := p[0], p[1:]
	kids := make([]*tree, root.Kids)
	for i := range kids {
		kids[i], rest = growFirst(rest, depth+1)
		if kids[i] == nil {
			return nil, nil
		}
	}
	return join(root, kids...), rest
}

// spine returns the number of the parts of a tree: one more than there are nodes of the operator on its left spine. It does not count beyond MaxArity + 1.
func spine(t *tree, op int) int {
	parts := 1
	for t.node.Op == op && parts <= api.MaxArity {
		parts++
		t = t.kids[0]
	}
	return parts
}
