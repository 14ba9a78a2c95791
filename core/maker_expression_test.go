package core_test

import (
	"slices"

	"cspcheck/api"
)

// special returns an expression that is made for a type.
func (r *maker) special(t what) list {
	switch t {
	case integer:
		return r.integer()
	case boolean:
		return r.boolean()
	case process:
		return r.process()
	case sequence:
		return r.sequence()
	case set:
		return r.set()
	case pair:
		return n(api.OpTuple, r.e(integer), r.e(sequence))
	case dotted:
		return n(api.OpDot, r.e(integer), r.e(boolean))
	case data:
		return r.one(func() list { return n(api.OpDot, name("B"), r.e(integer)) }, func() list { return n(api.OpDot, n(api.OpDot, name("C"), r.e(data)), r.e(boolean)) })
	case event:
		return r.one(func() list { return name("a") }, func() list { return n(api.OpDot, n(api.OpDot, name("c"), r.e(integer)), r.e(boolean)) })
	case events:
		return r.events()
	}
	return r.one(
		func() list {
			return n(api.OpMap, n(api.OpPair, r.e(integer), r.e(integer)), n(api.OpPair, r.e(integer), r.e(integer)))
		},
		func() list { return call("mapUpdate", r.e(mapping), r.e(integer), r.e(integer)) },
		func() list { return call("mapDelete", r.e(mapping), r.e(integer)) },
	)
}

func (r *maker) integer() list {
	return r.one(
		func() list {
			return n(r.op(api.OpAdd, api.OpSub, api.OpMul, api.OpDiv, api.OpMod), r.e(integer), r.e(integer))
		},
		func() list { return n(api.OpNeg, r.e(integer)) },
		func() list { return n(api.OpLen, r.e(sequence)) },
		func() list { return call("card", r.e(set)) },
		func() list { return call("mapLookup", r.e(mapping), r.e(integer)) },
		func() list { return apply(r.e(toInt), r.e(integer)) },
		func() list { return apply(r.e(fold), r.e(sequence)) },
	)
}

func (r *maker) boolean() list {
	return r.one(
		func() list {
			return n(r.op(api.OpLt, api.OpLe, api.OpGt, api.OpGe, api.OpEq, api.OpNe), r.e(integer), r.e(integer))
		},
		func() list {
			return n(r.op(api.OpLt, api.OpLe, api.OpGt, api.OpGe, api.OpEq, api.OpNe), r.e(sequence), r.e(sequence))
		},
		func() list { return n(r.op(api.OpAnd, api.OpOr), r.e(boolean), r.e(boolean)) },
		func() list { return n(api.OpNot, r.e(boolean)) },
		func() list { return call("member", r.e(integer), r.e(set)) },
		func() list { return call("elem", r.e(integer), r.e(sequence)) },
		func() list { return call("mapMember", r.e(mapping), r.e(integer)) },
		func() list { return call("null", r.e(sequence)) },
		func() list { return call("empty", r.e(set)) },
	)
}

func (r *maker) sequence() list {
	return r.one(
		func() list { return n(api.OpSeq, r.e(integer), r.e(integer)) },
		func() list { return n(api.OpCat, r.e(sequence), r.e(sequence)) },
		func() list { return n(api.OpSeqTo, r.e(integer), r.e(integer)) },
		func() list { return n(api.OpSeqFrom, r.e(integer)) },
		func() list { g := r.generators(false); return n(api.OpSeqComp, r.e(integer), g) },
		func() list { return call("tail", r.e(sequence)) },
		func() list { return call("seq", r.e(set)) },
		func() list { return call("concat", n(api.OpSeq, r.e(sequence))) },
	)
}

func (r *maker) set() list {
	return r.one(
		func() list { return n(api.OpSet, r.e(integer), r.e(integer)) },
		func() list { return n(api.OpSetTo, r.e(integer), r.e(integer)) },
		func() list { g := r.generators(true); return n(api.OpSetComp, r.e(integer), g) },
		func() list { return call("set", r.e(sequence)) },
		func() list { return call("Union", n(api.OpSet, r.e(set))) },
		func() list { return call("Inter", call("Set", r.e(set))) },
		func() list { return call("mapKeys", r.e(mapping)) },
		func() list { return apply(r.e(mix), r.e(set), r.e(set)) },
		func() list { return name("Int") },
		func() list {
			g := params(n(api.OpGen, r.p(boolean), name("Bool")))
			return n(api.OpSetComp, r.e(integer), g)
		},
	)
}

func (r *maker) events() list {
	return r.one(
		func() list { return n(api.OpEvents, r.e(event), n(api.OpDot, name("c"), r.e(integer)), name("d")) },
		func() list { g := r.generators(true); return n(api.OpEvComp, r.e(event), g) },
		func() list { return n(api.OpSet, r.e(event), r.e(event)) },
		func() list { return call("diff", r.e(events), r.e(events)) },
	)
}

func (r *maker) process() list {
	p := func() list { return r.e(process) }
	e := func() list { return r.e(event) }
	sets := func() list { return r.e(events) }
	events := func() list { return n(api.OpPair, e(), e()) }
	return r.one(
		r.prefix, r.prefix, r.prefix, r.prefix,
		func() list {
			return n(r.op(api.OpExtern, api.OpIntern, api.OpInter, api.OpSequence, api.OpInterrupt, api.OpSlide), p(), p())
		},
		func() list { return n(api.OpGuard, r.e(boolean), p()) },
		func() list { return n(r.op(api.OpThrow, api.OpSync, api.OpParallel), p(), sets(), p()) },
		func() list { return n(api.OpAlpha, p(), sets(), sets(), p()) },
		func() list { return n(api.OpHide, p(), sets()) },
		func() list { return n(api.OpRename, p(), params(events(), events())) },
		func() list {
			q := p()
			g := r.generators(true)
			return n(api.OpRename, q, with("", 0, renames([]list{events(), events()}, g)))
		},
		func() list { return n(api.OpLink, p(), params(events(), events()), p()) },
		func() list { return n(api.OpPrior, p(), n(api.OpSet, n(api.OpTuple, e(), e()))) },
		func() list { return n(api.OpChase, p()) },
		func() list { return apply(r.e(toProc), r.e(integer)) },
		r.repeat, r.repeat,
	)
}

// renames returns the Params of a Rename: Pairs, and then the children of other Params.
func renames(pairs []list, generators list) list {
	l := slices.Concat(append([]list{{{Op: api.OpParams, Kids: len(pairs) + generators[0].Kids}}}, pairs...)...)
	return append(l, generators[1:]...)
}

func (r *maker) prefix() list {
	field := func(op int, t, ofSet what) list {
		if r.Intn(3) == 0 && t == integer {
			s := r.e(ofSet)
			return n(op, r.p(t), s)
		}
		return n(op, r.p(t))
	}
	any := func(t what) list {
		switch r.Intn(3) {
		case 0:
			return n(api.OpOutput, r.e(t))
		case 1:
			return field(api.OpSome, t, set)
		}
		return field(api.OpInput, t, set)
	}
	switch r.Intn(4) {
	case 0:
		return n(api.OpPrefix, r.e(event), r.e(process))
	case 1:
		return n(api.OpPrefix, name("d"), any(integer), r.e(process))
	case 2:
		return n(api.OpPrefix, n(api.OpDot, name("c"), r.e(integer)), any(boolean), r.e(process))
	}
	return n(api.OpPrefix, name("c"), any(integer), any(boolean), r.e(process))
}

func (r *maker) repeat() list {
	switch op := r.op(api.OpExtern, api.OpIntern, api.OpInter, api.OpSequence, api.OpParallel, api.OpSync, api.OpAlpha); op {
	case api.OpParallel, api.OpSync:
		s := r.e(events)
		g := r.generators(true)
		return with("", op, n(api.OpRepeat, s, g, r.e(process)))
	case api.OpAlpha:
		g := r.generators(true)
		return with("", op, n(api.OpRepeat, g, r.e(events), r.e(process)))
	default:
		g := r.generators(op != api.OpSequence)
		return with("", op, n(api.OpRepeat, g, r.e(process)))
	}
}

// program returns the tree of a program, which is not resolved.
func (r *maker) program() list {
	fieldOf := func(con string, fields ...list) list { return with(con, 0, n(api.OpCon, fields...)) }
	l := []list{
		n(api.OpChannel, name("a")),
		with("", 1, n(api.OpChannel, name("c"), n(api.OpDot, name("N"), name("Bool")))),
		with("", 1, n(api.OpChannel, name("d"), n(api.OpSetComp, name("x"), params(n(api.OpGen, name("x"), name("N")))))),
		with("N", 0, n(api.OpNametype, n(api.OpSetTo, number(0), number(2)))),
		with("T", 0, n(api.OpData, fieldOf("A"), fieldOf("B", name("N")), fieldOf("C", name("T"), name("Bool")))),
	}
	r.Shuffle(len(l), func(i, k int) { l[i], l[k] = l[k], l[i] })
	var functions []declared
	for range 1 + r.Intn(3) {
		functions = append(functions, r.declare("f"))
	}
	for _, f := range functions {
		r.budget = 5 + r.Intn(60)
		l = append(l, r.funs(f)...)
	}
	for range r.Intn(3) {
		r.budget = r.Intn(20)
		p, t := r.bind()
		l = append(l, n(api.OpBind, p, r.e(t)))
		r.budget = r.Intn(20)
		l = append(l, r.assertion())
	}
	return n(api.OpProgram, l...)
}

func (r *maker) assertion() list {
	sign := r.op(1, -1)
	switch r.Intn(3) {
	case 0:
		return with("", sign*(1+r.Intn(3)), n(api.OpRefine, r.e(process), r.e(process)))
	case 1:
		return with("", sign*(1+r.Intn(3)), n(api.OpCheck, r.e(process)))
	}
	return with("", sign, n(api.OpTrace, r.e(process), n(api.OpSeq, r.e(event))))
}
