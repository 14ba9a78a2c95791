package core

import "cspcheck/api"

// expression writes the code of an expression.
func (w *writer) expression(i int) {
	n := w.Nodes[i]
	kids := w.Kids(i)
	if c := plain(n.Op); c.Op != 0 {
		w.emit(c.Op, int(c.Int), len(kids))
		w.expressions(kids)
		return
	}
	outside := w.added
	switch n.Op {
	case api.OpName:
		w.name(int(n.Int))
	case api.OpInt:
		w.emit(api.CodeInt, int(n.Int), 0)
	case api.OpTrue:
		w.emit(api.CodeBool, 1, 0)
	case api.OpFalse:
		w.emit(api.CodeBool, 0, 0)
	case api.OpMap:
		w.emit(api.CodeMap, 0, 2*len(kids))
		for _, pair := range kids {
			w.expressions(w.Kids(pair))
		}
	case api.OpNe, api.OpLe, api.OpGt, api.OpGe, api.OpAnd, api.OpOr, api.OpGuard, api.OpInter:
		w.abbreviation(n.Op, kids)
	case api.OpApply:
		w.apply(i)
	case api.OpLet:
		w.let(i)
	case api.OpLambda:
		w.call(w.byNode[i], nil)
	case api.OpBoth:
		// The chapter gives it no code of its own. As in a timed section, it stands for its left operand.
		w.expression(kids[0])
	default:
		w.binding(i)
	}
	w.added = outside
}

// binding writes an expression whose parts bind variables for others.
func (w *writer) binding(i int) {
	switch n := w.Nodes[i]; n.Op {
	case api.OpSeqComp:
		w.comprehension(i, api.ValSeq)
	case api.OpSetComp:
		w.comprehension(i, api.ValSet)
	case api.OpEvComp:
		w.emit(api.CodeEvents, 0, 1)
		w.comprehension(i, api.ValSet)
	case api.OpPrefix:
		w.prefix(i)
	case api.OpRename:
		w.rename(i)
	case api.OpLink:
		w.link(i)
	case api.OpRepeat:
		w.repeat(i)
	}
}

// comprehension writes a comprehension of sequences or sets.
func (w *writer) comprehension(i, kind int) {
	kids := w.Kids(i)
	w.emit(api.CodeComp, kind, w.Nodes[kids[1]].Kids+1)
	w.parts(kids[1])
	w.expression(kids[0])
}

// parts writes the generators and conditions of Params, and then its Pairs.
func (w *writer) parts(params int) {
	for _, part := range w.InScopeOrder(params) {
		kids := w.Kids(part)
		switch w.Nodes[part].Op {
		case api.OpGen:
			w.emit(api.CodeGen, 0, 2)
			w.pattern(kids[0])
			w.expression(kids[1])
			w.addSlots(w.variables(kids[0]))
		case api.OpPair:
			w.emit(api.CodePair, 0, 2)
			w.expressions(kids)
		default:
			w.emit(api.CodeCond, 0, 1)
			w.expression(part)
		}
	}
}

// abbreviation writes an expression with two operands that stands for other code.
func (w *writer) abbreviation(op int, operands []int) {
	left, right := operands[:1], operands[1:]
	switch op {
	case api.OpNe:
		w.emit(api.CodePrim, api.PrimNot, 1)
		w.emit(api.CodePrim, api.PrimEq, 2)
		w.expressions(operands)
	case api.OpGt:
		w.less(right, left)
	case api.OpLe:
		w.emit(api.CodePrim, api.PrimNot, 1)
		w.less(right, left)
	case api.OpGe:
		w.emit(api.CodePrim, api.PrimNot, 1)
		w.less(left, right)
	case api.OpAnd:
		w.emit(api.CodeIf, 0, 3)
		w.expressions(operands)
		w.emit(api.CodeBool, 0, 0)
	case api.OpOr:
		w.emit(api.CodeIf, 0, 3)
		w.expressions(left)
		w.emit(api.CodeBool, 1, 0)
		w.expressions(right)
	case api.OpGuard:
		w.emit(api.CodeIf, 0, 3)
		w.expressions(operands)
		w.emit(api.CodeProcOp, api.ProcStop, 0)
	case api.OpInter:
		w.emit(api.CodeProcOp, api.ProcParallel, 3)
		w.expressions(left)
		w.emit(api.CodeSet, 0, 0)
		w.expressions(right)
	}
}

func (w *writer) less(left, right []int) {
	w.emit(api.CodePrim, api.PrimLt, 2)
	w.expressions(left)
	w.expressions(right)
}
