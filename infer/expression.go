package infer

import "cspcheck/api"

// expression returns the type of an expression. The symbols that it declares are open inside it only.
func (x *program) expression(i int) *term {
	outside := len(x.open)
	t := x.typeOf(i)
	x.open = x.open[:outside]
	return t
}

func (x *program) expressions(nodes []int) []*term {
	var l []*term
	for _, i := range nodes {
		l = append(l, x.expression(i))
	}
	return l
}

// pattern returns the type of a pattern. The symbols that it declares become open, unless a group has done so.
func (x *program) pattern(i int) *term {
	for _, k := range x.variablesOf(i) {
		if x.symbols[k].Kind == api.SymVar {
			x.open = append(x.open, k)
		}
	}
	x.matching = true
	t := x.expression(i)
	x.matching = false
	return t
}

func (x *program) typeOf(i int) *term {
	kids := x.Kids(i)
	switch x.Nodes[i].Op {
	case api.OpName:
		return x.name(i)
	case api.OpWild:
		if !x.matching {
			x.fail(i, api.ErrType)
		}
		return x.fresh()
	case api.OpTuple:
		return tuple(x.expressions(kids)...)
	case api.OpMap:
		return x.mapOf(i)
	case api.OpEvents:
		for _, t := range x.expressions(kids) {
			x.requireEvents(i, t)
		}
		return set(event())
	case api.OpSeqComp, api.OpSetComp, api.OpEvComp:
		return x.comprehension(i)
	case api.OpApply:
		return x.apply(i)
	case api.OpDot:
		return x.dot(i)
	case api.OpLet:
		x.block(kids[0])
		return x.expression(kids[1])
	case api.OpLambda:
		return x.lambda(kids[0], kids[1])
	case api.OpPrefix:
		return x.prefix(i)
	case api.OpRename, api.OpLink:
		return x.withPairs(i)
	case api.OpRepeat:
		return x.repeat(i)
	}
	return x.operator(i)
}

// name returns the type of a Name. Functions and variables of the program are not used before the groups of the program.
func (x *program) name(i int) *term {
	k := x.Nodes[i].Int
	if x.declaring && x.symbols[k].Kind == api.SymGlobal {
		x.fail(i, api.ErrState)
	}
	return x.instance(i, x.schemes[k])
}

func (x *program) mapOf(i int) *term {
	key, to := x.fresh(), x.fresh()
	var parts []*term
	for _, pair := range x.Kids(i) {
		parts = append(parts, x.expressions(x.Kids(pair))...)
	}
	for k, t := range parts {
		if k%2 == 0 {
			x.require(i, key, t)
		} else {
			x.require(i, to, t)
		}
	}
	x.need(i, key, api.ClassSet)
	return mapping(key, to)
}

func (x *program) comprehension(i int) *term {
	kids := x.Kids(i)
	op := x.Nodes[i].Op
	x.parts(kids[1], op == api.OpSeqComp)
	t := x.expression(kids[0])
	switch op {
	case api.OpSeqComp:
		return sequence(t)
	case api.OpSetComp:
		x.need(i, t, api.ClassSet)
		return set(t)
	}
	x.requireEvents(i, t)
	return set(event())
}

// requireEvents requires at a node that a type is that of events, or of what can be extended to events.
func (x *program) requireEvents(i int, t *term) {
	t = x.head(t)
	for t.node.Kind == api.TypeExt {
		t = x.head(t.kids[1])
	}
	switch {
	case t.isVar():
		x.require(i, t, event())
	case t.node.Kind != api.TypeEvent:
		x.fail(i, api.ErrType)
	}
}

// parts infers the types of the parts of Params: generators, of sequences or of sets, and conditions, and then pairs.
func (x *program) parts(params int, ofSequences bool) {
	for _, i := range x.InScopeOrder(params) {
		switch x.Nodes[i].Op {
		case api.OpGen:
			x.generator(i, ofSequences)
		case api.OpPair:
			for _, t := range x.expressions(x.Kids(i)) {
				x.require(i, t, event())
			}
		default:
			x.require(i, x.expression(i), boolean())
		}
	}
}

func (x *program) generator(i int, ofSequences bool) {
	kids := x.Kids(i)
	element := x.pattern(kids[0])
	source := x.expression(kids[1])
	if ofSequences {
		x.require(i, source, sequence(element))
		return
	}
	x.require(i, source, set(element))
	x.need(i, element, api.ClassSet)
}

func (x *program) apply(i int) *term {
	l := x.expressions(x.Kids(i))
	a := x.fresh()
	x.require(i, l[0], function(append(l[1:], a)...))
	return a
}
