package core

import "cspcheck/api"

const (
	none       = -1 // in place of the number of a function, or of operands
	noDatatype = -1 // in place of the number of the datatype of a channel

	minTuple = 2 // components
)

// permits reports whether a node is one of an expression, with an Int and a number of children that are permitted here.
func (x *checker) permits(n api.Code) bool {
	switch n.Op {
	case api.CodeSlot:
		return n.Kids == 0 && isBelow(n.Int, x.slots)
	case api.CodeInt:
		return n.Kids == 0
	case api.CodeBool:
		return n.Kids == 0 && isBelow(n.Int, 2)
	case api.CodeName:
		return n.Kids == 0 && isBelow(n.Int, len(x.core.Names))
	case api.CodeData:
		return n.Kids == 0 && x.datatypes[n.Int]
	case api.CodeFun, api.CodeCall, api.CodeProc:
		return isBelow(n.Int, len(x.core.Funcs)) && permitsCall(n, x.core.Funcs[n.Int])
	case api.CodePrim:
		return n.Kids == operandsOf(n.Int)
	case api.CodeProcOp:
		return n.Kids == partsOf(n.Int)
	case api.CodeTo, api.CodeComp:
		return (n.Int == api.ValSeq || n.Int == api.ValSet) && (n.Kids == 2 || n.Op == api.CodeComp && n.Kids > 2)
	case api.CodeLet:
		return n.Int > 0 && n.Int == int64(n.Kids-1)
	case api.CodeRepeat:
		return isRepeated(n.Int) && n.Kids > 0
	}
	return n.Int == 0 && permitsKids(n)
}

// isBelow reports whether a number is an index of a list.
func isBelow(number int64, length int) bool {
	return number >= 0 && number < int64(length)
}

// permitsCall reports whether a node has as many children as it may have for its function.
func permitsCall(n api.Code, f api.Func) bool {
	if n.Op == api.CodeFun {
		return n.Kids < f.Arity
	}
	return n.Kids == f.Arity && f.Proc == (n.Op == api.CodeProc)
}

// permitsKids reports whether a node of an expression whose Int has no meaning has a permitted number of children.
func permitsKids(n api.Code) bool {
	switch n.Op {
	case api.CodeSeq, api.CodeSet, api.CodeEvents:
		return true
	case api.CodeApply:
		return n.Kids >= 1
	case api.CodeFrom:
		return n.Kids == 1
	case api.CodeDot:
		return n.Kids == 2
	case api.CodeIf, api.CodeSelect:
		return n.Kids == 3
	case api.CodeTuple:
		return n.Kids >= minTuple && n.Kids <= api.MaxArity
	case api.CodeMap:
		return n.Kids%2 == 0
	case api.CodePrefix:
		return n.Kids >= 2 && n.Kids <= api.MaxArity+2
	case api.CodeRename:
		return n.Kids >= 2
	case api.CodeLink:
		return n.Kids >= 3
	}
	return false
}

// operandsOf returns the number of operands of a primitive, or none.
func operandsOf(primitive int64) int {
	switch primitive {
	case api.PrimEvents, api.PrimInts:
		return 0
	case api.PrimUpdate:
		return 3
	case api.PrimAdd, api.PrimSub, api.PrimMul, api.PrimDiv, api.PrimMod, api.PrimEq, api.PrimLt, api.PrimCat, api.PrimElem,
		api.PrimUnion, api.PrimInter, api.PrimDiff, api.PrimMember, api.PrimLookup, api.PrimHasKey, api.PrimDelete:
		return 2
	}
	if primitive < api.PrimNeg || primitive > api.PrimInts {
		return none
	}
	return 1
}

// partsOf returns the number of the parts of a process operator whose parts are expressions, or none.
func partsOf(operator int64) int {
	switch operator {
	case api.ProcStop, api.ProcSkip, api.ProcDiv:
		return 0
	case api.ProcChase:
		return 1
	case api.ProcExtern, api.ProcIntern, api.ProcSequence, api.ProcInterrupt, api.ProcSlide, api.ProcHide, api.ProcPrior:
		return 2
	case api.ProcThrow, api.ProcSync, api.ProcParallel:
		return 3
	case api.ProcAlpha:
		return 4
	}
	return none
}

// isRepeated reports whether a process operator can be replicated.
func isRepeated(operator int64) bool {
	switch operator {
	case api.ProcExtern, api.ProcIntern, api.ProcSequence, api.ProcSync, api.ProcParallel, api.ProcAlpha:
		return true
	}
	return false
}
