package core

import "cspcheck/api"

// plain returns the code, without its children, of an operator whose operands become the children, in their order. Its Op is 0 for other operators.
func plain(op int) api.Code {
	if p := primitive(op); p != 0 {
		return api.Code{Op: api.CodePrim, Int: int64(p)}
	}
	if p := processOperator(op); p != 0 {
		return api.Code{Op: api.CodeProcOp, Int: int64(p)}
	}
	switch op {
	case api.OpTuple:
		return api.Code{Op: api.CodeTuple}
	case api.OpSeq:
		return api.Code{Op: api.CodeSeq}
	case api.OpSet:
		return api.Code{Op: api.CodeSet}
	case api.OpEvents:
		return api.Code{Op: api.CodeEvents}
	case api.OpSeqFrom:
		return api.Code{Op: api.CodeFrom}
	case api.OpSeqTo:
		return api.Code{Op: api.CodeTo, Int: api.ValSeq}
	case api.OpSetTo:
		return api.Code{Op: api.CodeTo, Int: api.ValSet}
	case api.OpDot:
		return api.Code{Op: api.CodeDot}
	case api.OpIf:
		return api.Code{Op: api.CodeIf}
	}
	return api.Code{}
}

// primitive returns the primitive that an operator is, or 0.
func primitive(op int) int {
	switch op {
	case api.OpCat:
		return api.PrimCat
	case api.OpLen:
		return api.PrimLen
	case api.OpNeg:
		return api.PrimNeg
	case api.OpMul:
		return api.PrimMul
	case api.OpDiv:
		return api.PrimDiv
	case api.OpMod:
		return api.PrimMod
	case api.OpAdd:
		return api.PrimAdd
	case api.OpSub:
		return api.PrimSub
	case api.OpEq:
		return api.PrimEq
	case api.OpLt:
		return api.PrimLt
	case api.OpNot:
		return api.PrimNot
	}
	return 0
}

// processOperator returns the process operator whose operands and sets are those of an operator, or 0.
func processOperator(op int) int {
	switch op {
	case api.OpStop:
		return api.ProcStop
	case api.OpSkip:
		return api.ProcSkip
	case api.OpDiv0:
		return api.ProcDiv
	case api.OpExtern:
		return api.ProcExtern
	case api.OpIntern:
		return api.ProcIntern
	case api.OpSequence:
		return api.ProcSequence
	case api.OpInterrupt:
		return api.ProcInterrupt
	case api.OpSlide:
		return api.ProcSlide
	case api.OpThrow:
		return api.ProcThrow
	case api.OpSync:
		return api.ProcSync
	case api.OpParallel:
		return api.ProcParallel
	case api.OpAlpha:
		return api.ProcAlpha
	case api.OpHide:
		return api.ProcHide
	case api.OpPrior:
		return api.ProcPrior
	case api.OpChase:
		return api.ProcChase
	}
	return 0
}

// primitiveOf returns the primitive that a builtin with parameters is.
func primitiveOf(builtin string) int {
	return map[string]int{
		"union":     api.PrimUnion,
		"inter":     api.PrimInter,
		"diff":      api.PrimDiff,
		"Union":     api.PrimBigUnion,
		"Inter":     api.PrimBigInter,
		"member":    api.PrimMember,
		"card":      api.PrimCard,
		"empty":     api.PrimEmpty,
		"set":       api.PrimSet,
		"seq":       api.PrimSeq,
		"Set":       api.PrimSubsets,
		"head":      api.PrimHead,
		"tail":      api.PrimTail,
		"null":      api.PrimNull,
		"elem":      api.PrimElem,
		"length":    api.PrimLen,
		"concat":    api.PrimConcat,
		"mapLookup": api.PrimLookup,
		"mapMember": api.PrimHasKey,
		"mapUpdate": api.PrimUpdate,
		"mapDelete": api.PrimDelete,
		"mapKeys":   api.PrimKeys,
	}[builtin]
}
