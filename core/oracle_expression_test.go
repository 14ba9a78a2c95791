package core_test

import "cspcheck/api"

// rows are the operators whose code has the code of the operands as its children.
var rows = map[int]branch{
	api.OpTuple: leaf(api.CodeTuple, 0), api.OpSeq: leaf(api.CodeSeq, 0), api.OpSet: leaf(api.CodeSet, 0), api.OpEvents: leaf(api.CodeEvents, 0), api.OpDot: leaf(api.CodeDot, 0), api.OpIf: leaf(api.CodeIf, 0),
	api.OpSeqFrom: leaf(api.CodeFrom, 0), api.OpSeqTo: leaf(api.CodeTo, api.ValSeq), api.OpSetTo: leaf(api.CodeTo, api.ValSet),
	api.OpCat: prim(api.PrimCat), api.OpLen: prim(api.PrimLen), api.OpNeg: prim(api.PrimNeg), api.OpMul: prim(api.PrimMul), api.OpDiv: prim(api.PrimDiv), api.OpMod: prim(api.PrimMod), api.OpAdd: prim(api.PrimAdd), api.OpSub: prim(api.PrimSub),
	api.OpEq: prim(api.PrimEq), api.OpLt: prim(api.PrimLt), api.OpNot: prim(api.PrimNot),
	api.OpStop: leaf(api.CodeProcOp, api.ProcStop), api.OpSkip: leaf(api.CodeProcOp, api.ProcSkip), api.OpDiv0: leaf(api.CodeProcOp, api.ProcDiv),
	api.OpExtern: leaf(api.CodeProcOp, api.ProcExtern), api.OpIntern: leaf(api.CodeProcOp, api.ProcIntern), api.OpSequence: leaf(api.CodeProcOp, api.ProcSequence), api.OpInterrupt: leaf(api.CodeProcOp, api.ProcInterrupt), api.OpSlide: leaf(api.CodeProcOp, api.ProcSlide),
	api.OpThrow: leaf(api.CodeProcOp, api.ProcThrow), api.OpSync: leaf(api.CodeProcOp, api.ProcSync), api.OpParallel: leaf(api.CodeProcOp, api.ProcParallel), api.OpAlpha: leaf(api.CodeProcOp, api.ProcAlpha), api.OpHide: leaf(api.CodeProcOp, api.ProcHide),
	api.OpPrior: leaf(api.CodeProcOp, api.ProcPrior), api.OpChase: leaf(api.CodeProcOp, api.ProcChase),
}

// c returns the code of an expression, and adds the functions that are lifted from it.
func (o *oracle) c(x *tree, e env) branch {
	if b, ok := rows[x.Op]; ok {
		b.kids = o.cs(x.kids, e)
		return b
	}
	switch x.Op {
	case api.OpName:
		return o.name(int(x.Int), e)
	case api.OpInt:
		return leaf(api.CodeInt, int(x.Int))
	case api.OpTrue:
		return leaf(api.CodeBool, 1)
	case api.OpFalse:
		return leaf(api.CodeBool, 0)
	case api.OpMap:
		b := leaf(api.CodeMap, 0)
		for _, pair := range x.kids {
			b.kids = append(b.kids, o.cs(pair.kids, e)...)
		}
		return b
	case api.OpNe, api.OpGt, api.OpLe, api.OpGe, api.OpAnd, api.OpOr, api.OpGuard, api.OpInter, api.OpBoth:
		return o.operator(x.Op, o.c(x.kids[0], e), o.c(x.kids[1], e))
	case api.OpApply:
		return o.apply(x, e)
	case api.OpSeqComp:
		return o.comprehension(x, e, api.ValSeq)
	case api.OpSetComp:
		return o.comprehension(x, e, api.ValSet)
	case api.OpEvComp:
		return node1(api.CodeEvents, o.comprehension(x, e, api.ValSet))
	case api.OpLet:
		return o.let(x, e)
	case api.OpLambda:
		k := o.add(api.Func{Arity: len(x.kids[0].kids), Pos: x.Pos}, x, func(inside env) branch { return o.clausesOf([]*tree{x}, inside) })
		return o.call(k, e, nil)
	case api.OpPrefix:
		return o.prefix(x, e)
	case api.OpRename:
		process := o.c(x.kids[0], e)
		gens, inside := o.generators(x.kids[1], e)
		return node1(api.CodeRename, append(append([]branch{process}, gens...), o.pairs(x.kids[1], inside)...)...)
	case api.OpLink:
		left := o.c(x.kids[0], e)
		pairs := o.pairs(x.kids[1], e)
		return node1(api.CodeLink, append(append([]branch{left}, pairs...), o.c(x.kids[2], e))...)
	case api.OpRepeat:
		return o.repeat(x, e)
	}
	panic("an expression without code")
}

func (o *oracle) cs(l []*tree, e env) (kids []branch) {
	for _, x := range l {
		kids = append(kids, o.c(x, e))
	}
	return kids
}

// operator returns the code of an operator from those of its operands.
func (o *oracle) operator(op int, l, r branch) branch {
	switch op {
	case api.OpNe:
		return prim(api.PrimNot, prim(api.PrimEq, l, r))
	case api.OpGt:
		return prim(api.PrimLt, r, l)
	case api.OpLe:
		return prim(api.PrimNot, prim(api.PrimLt, r, l))
	case api.OpGe:
		return prim(api.PrimNot, prim(api.PrimLt, l, r))
	case api.OpAnd:
		return node1(api.CodeIf, l, r, leaf(api.CodeBool, 0))
	case api.OpOr:
		return node1(api.CodeIf, l, leaf(api.CodeBool, 1), r)
	case api.OpGuard:
		return node1(api.CodeIf, l, r, leaf(api.CodeProcOp, api.ProcStop))
	case api.OpInter:
		return branch{api.CodeProcOp, api.ProcParallel, []branch{l, leaf(api.CodeSet, 0), r}}
	}
	return l
}

// call returns a function with its captured symbols and arguments.
func (o *oracle) call(k int, e env, arguments []branch) branch {
	b := leaf(api.CodeFun, k)
	for _, symbol := range o.held[k] {
		b.kids = append(b.kids, e.slot(symbol))
	}
	b.kids = append(b.kids, arguments...)
	if len(b.kids) == o.funcs[k].Arity {
		b.op = api.CodeCall
		if o.funcs[k].Proc {
			b.op = api.CodeProc
		}
	}
	return b
}

// builtins are the primitives of the builtins with parameters, in their order.
var builtins = []int{
	api.PrimUnion, api.PrimInter, api.PrimDiff, api.PrimBigUnion, api.PrimBigInter, api.PrimMember, api.PrimCard, api.PrimEmpty, api.PrimSet, api.PrimSeq, api.PrimSubsets,
	api.PrimHead, api.PrimTail, api.PrimNull, api.PrimElem, api.PrimLen, api.PrimConcat, api.PrimLookup, api.PrimHasKey, api.PrimUpdate, api.PrimDelete, api.PrimKeys,
}

func (o *oracle) name(k int, e env) branch {
	s := o.s[k]
	switch {
	case s.Kind == api.SymCon, s.Kind == api.SymChannel:
		return leaf(api.CodeName, o.number[k])
	case s.Kind == api.SymData:
		return leaf(api.CodeData, o.number[k])
	case s.Kind == api.SymVar, s.Kind == api.SymLocal && !o.lifted(k):
		return e.slot(k)
	case s.Name == "Events" && s.Kind == api.SymBuiltin:
		return prim(api.PrimEvents)
	case s.Name == "Int" && s.Kind == api.SymBuiltin:
		return prim(api.PrimInts)
	case s.Name == "Bool" && s.Kind == api.SymBuiltin:
		return node1(api.CodeSet, leaf(api.CodeBool, 0), leaf(api.CodeBool, 1))
	}
	if _, ok := o.function[k]; !ok {
		o.function[k] = o.add(api.Func{Name: s.Name, Arity: s.Arity}, nil, func(env) branch {
			b := prim(builtins[k])
			for slot := range s.Arity {
				b.kids = append(b.kids, leaf(api.CodeSlot, slot))
			}
			return b
		})
	}
	return o.call(o.function[k], e, nil)
}

func (o *oracle) apply(x *tree, e env) branch {
	f, arguments := x.kids[0], x.kids[1:]
	if f.Op == api.OpName && o.s[f.Int].Arity == len(arguments) {
		k := int(f.Int)
		if o.s[k].Kind == api.SymBuiltin {
			return prim(builtins[k], o.cs(arguments, e)...)
		}
		if o.s[k].Kind == api.SymGlobal || o.lifted(k) {
			return o.call(o.function[k], e, o.cs(arguments, e))
		}
	}
	return node1(api.CodeApply, o.cs(x.kids, e)...)
}

// generators returns the code of the generators and conditions of Params, and the slots behind them.
func (o *oracle) generators(params *tree, e env) ([]branch, env) {
	var l []branch
	for _, x := range params.kids {
		switch x.Op {
		case api.OpGen:
			l = append(l, node1(api.CodeGen, o.p(x.kids[0]), o.c(x.kids[1], e)))
			e = e.with(o.symbols(x.kids[0])...)
		case api.OpPair:
		default:
			l = append(l, node1(api.CodeCond, o.c(x, e)))
		}
	}
	return l, e
}

func (o *oracle) pairs(params *tree, e env) (l []branch) {
	for _, x := range params.kids {
		if x.Op == api.OpPair {
			l = append(l, node1(api.CodePair, o.cs(x.kids, e)...))
		}
	}
	return l
}

func (o *oracle) comprehension(x *tree, e env, kind int) branch {
	gens, inside := o.generators(x.kids[1], e)
	return branch{api.CodeComp, kind, append(gens, o.c(x.kids[0], inside))}
}

func (o *oracle) repeat(x *tree, e env) branch {
	b := leaf(api.CodeRepeat, map[int64]int{api.OpExtern: api.ProcExtern, api.OpIntern: api.ProcIntern, api.OpSequence: api.ProcSequence, api.OpInter: api.ProcParallel, api.OpParallel: api.ProcParallel, api.OpSync: api.ProcSync, api.OpAlpha: api.ProcAlpha}[x.Int])
	if x.Int == api.OpInter {
		b.kids = []branch{leaf(api.CodeSet, 0)}
	}
	for _, kid := range x.kids {
		if kid.Op != api.OpParams {
			b.kids = append(b.kids, o.c(kid, e))
			continue
		}
		var gens []branch
		gens, e = o.generators(kid, e)
		b.kids = append(b.kids, gens...)
	}
	return b
}

func (o *oracle) prefix(x *tree, e env) branch {
	last := len(x.kids) - 1
	b := node1(api.CodePrefix, o.c(x.kids[0], e))
	for _, f := range x.kids[1:last] {
		if f.Op == api.OpOutput {
			b.kids = append(b.kids, node1(api.CodeOut, o.c(f.kids[0], e)))
			continue
		}
		op := map[int]int{api.OpInput: api.CodeIn, api.OpSome: api.CodeSome}[f.Op]
		b.kids = append(b.kids, node1(op, append([]branch{o.p(f.kids[0])}, o.cs(f.kids[1:], e)...)...))
		e = e.with(o.symbols(f.kids[0])...)
	}
	next := x.kids[last]
	ofProgram := next.Op == api.OpName && o.s[next.Int].Kind == api.SymGlobal && o.isProc(int(next.Int))
	if next.Op == api.OpStop || next.Op == api.OpSkip || ofProgram {
		b.kids = append(b.kids, o.c(next, e))
		return b
	}
	k := o.add(api.Func{Proc: true, Pos: x.Pos}, next, func(inside env) branch { return o.c(next, inside) })
	b.kids = append(b.kids, o.call(k, e, nil))
	return b
}

func (o *oracle) let(x *tree, e env) branch {
	bound := map[*tree]int{}
	for _, d := range x.kids[0].kids {
		switch {
		case d.Op == api.OpFun && o.lifted(int(d.Int)):
			o.fun(d)
		case d.Op == api.OpFun:
			e = e.with(int(d.Int))
		case d.Op == api.OpBind:
			bound[d] = len(e)
			e = e.with(-1).with(o.symbols(d.kids[0])...)
		}
	}
	var l []branch
	for _, d := range x.kids[0].kids {
		switch {
		case d.Op == api.OpFun && !o.lifted(int(d.Int)):
			l = append(l, o.c(d.kids[1], e))
		case d.Op == api.OpBind:
			l = append(l, o.c(d.kids[1], e))
			for k := range o.variables(d.kids[0]) {
				l = append(l, node1(api.CodeSelect, leaf(api.CodeSlot, bound[d]), o.p(d.kids[0]), leaf(api.CodeSlot, len(e)+k)))
			}
		}
	}
	body := o.c(x.kids[1], e)
	if len(l) == 0 {
		return body
	}
	return branch{api.CodeLet, len(l), append(l, body)}
}
