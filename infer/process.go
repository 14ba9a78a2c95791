package infer

import "cspcheck/api"

// prefix returns the type of a Prefix. Each field extends its event, which must be complete behind the last one.
func (x *program) prefix(i int) *term {
	kids := x.Kids(i)
	last := len(kids) - 1
	e := x.expression(kids[0])
	for _, field := range kids[1:last] {
		e = x.field(field, e)
	}
	x.require(i, e, event())
	x.require(i, x.expression(kids[last]), process())
	return process()
}

// field returns the type of an event behind a field.
func (x *program) field(i int, e *term) *term {
	kids := x.Kids(i)
	rest := x.fresh()
	if x.Nodes[i].Op == api.OpOutput {
		x.require(i, e, extension(x.expression(kids[0]), rest))
		return rest
	}
	t := x.pattern(kids[0])
	x.require(i, e, extension(t, rest))
	if len(kids) > 1 {
		x.require(i, x.expression(kids[1]), set(t))
	}
	return rest
}

// withPairs returns the type of a Rename or Link.
func (x *program) withPairs(i int) *term {
	var processes []*term
	for _, kid := range x.Kids(i) {
		if x.Nodes[kid].Op == api.OpParams {
			x.parts(kid, false)
		} else {
			processes = append(processes, x.expression(kid))
		}
	}
	for _, t := range processes {
		x.require(i, t, process())
	}
	return process()
}

func (x *program) repeat(i int) *term {
	kids := x.Kids(i)
	last := len(kids) - 1
	for _, kid := range kids[:last] {
		if x.Nodes[kid].Op == api.OpParams {
			x.parts(kid, x.Nodes[i].Int == api.OpSequence)
		} else {
			x.require(i, x.expression(kid), set(event()))
		}
	}
	x.require(i, x.expression(kids[last]), process())
	return process()
}
