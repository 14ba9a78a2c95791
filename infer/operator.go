package infer

import "cspcheck/api"

// operator returns the type of a node whose parts are expressions of types that its operator determines, apart from a type a that it may choose. An assertion is such a node, too.
func (x *program) operator(i int) *term {
	n := x.Nodes[i]
	a := x.fresh()
	operands, result := operandsOf(n, a), resultOf(n.Op, a)
	for k, t := range x.expressions(x.Kids(i)) {
		x.require(i, t, operands[min(k, len(operands)-1)])
	}
	if class := classOf(n.Op); class != 0 {
		x.need(i, a, class)
	}
	return result
}

// operandsOf returns the types of the operands of a node. The last one is also that of further operands.
func operandsOf(n api.Node, a *term) []*term {
	events := set(event())
	switch n.Op {
	case api.OpSeq, api.OpSet, api.OpEq, api.OpNe, api.OpLt, api.OpLe, api.OpGt, api.OpGe, api.OpBoth:
		return []*term{a}
	case api.OpNeg, api.OpMul, api.OpDiv, api.OpMod, api.OpAdd, api.OpSub, api.OpSeqFrom, api.OpSeqTo, api.OpSetTo:
		return []*term{integer()}
	case api.OpNot, api.OpAnd, api.OpOr:
		return []*term{boolean()}
	case api.OpCat, api.OpLen:
		return []*term{sequence(a)}
	case api.OpIf:
		return []*term{boolean(), a}
	case api.OpGuard:
		return []*term{boolean(), process()}
	case api.OpThrow, api.OpSync, api.OpParallel:
		return []*term{process(), events, process()}
	case api.OpAlpha:
		return []*term{process(), events, events, process()}
	case api.OpHide:
		return []*term{process(), events}
	case api.OpPrior:
		return []*term{process(), set(tuple(event(), event()))}
	case api.OpTrace:
		return []*term{process(), sequence(event())}
	}
	return []*term{process()}
}

func resultOf(op int, a *term) *term {
	switch op {
	case api.OpInt, api.OpLen, api.OpNeg, api.OpMul, api.OpDiv, api.OpMod, api.OpAdd, api.OpSub:
		return integer()
	case api.OpTrue, api.OpFalse, api.OpEq, api.OpNe, api.OpLt, api.OpLe, api.OpGt, api.OpGe, api.OpNot, api.OpAnd, api.OpOr:
		return boolean()
	case api.OpSeq, api.OpCat:
		return sequence(a)
	case api.OpSet:
		return set(a)
	case api.OpSeqFrom, api.OpSeqTo:
		return sequence(integer())
	case api.OpSetTo:
		return set(integer())
	case api.OpIf, api.OpBoth:
		return a
	}
	return process()
}

// classOf returns the class that the chosen type of an operator needs, or 0.
func classOf(op int) int {
	switch op {
	case api.OpSet:
		return api.ClassSet
	case api.OpEq, api.OpNe:
		return api.ClassEq
	case api.OpLt, api.OpLe, api.OpGt, api.OpGe:
		return api.ClassOrd
	}
	return 0
}
