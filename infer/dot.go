package infer

import "cspcheck/api"

// dot returns the type of a Dot. A constructor or channel at the beginning of its left spine is extended by the other parts.
func (x *program) dot(i int) *term {
	if x.declaring {
		x.fail(i, api.ErrType)
	}
	l := x.expressions(x.Kids(i))
	if !x.isConstant(x.leftmost(i)) {
		return join(api.TypeDot, l...)
	}
	left := l[0]
	if left.node.Kind != api.TypeExt {
		x.fail(i, api.ErrType)
		return x.fresh()
	}
	x.require(i, left.kids[0], l[1])
	return left.kids[1]
}

// leftmost returns the first part of the left spine of a Dot.
func (x *program) leftmost(i int) int {
	for x.Nodes[i].Op == api.OpDot {
		i++
	}
	return i
}

// isConstant reports whether a node is the Name of a constructor or channel.
func (x *program) isConstant(i int) bool {
	n := x.Nodes[i]
	if n.Op != api.OpName {
		return false
	}
	kind := x.symbols[n.Int].Kind
	return kind == api.SymCon || kind == api.SymChannel
}
