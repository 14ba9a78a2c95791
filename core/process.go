package core

import "cspcheck/api"

// prefix writes a Prefix. The variables of a field are visible behind it.
func (w *writer) prefix(i int) {
	kids := w.Kids(i)
	last := len(kids) - 1
	w.emit(api.CodePrefix, 0, len(kids))
	w.expression(kids[0])
	for _, field := range kids[1:last] {
		w.field(field)
	}
	w.continuation(kids[last])
}

// field writes an Input, Some or Output.
func (w *writer) field(i int) {
	kids := w.Kids(i)
	switch w.Nodes[i].Op {
	case api.OpInput:
		w.emit(api.CodeIn, 0, len(kids))
	case api.OpSome:
		w.emit(api.CodeSome, 0, len(kids))
	default:
		w.emit(api.CodeOut, 0, 1)
		w.expression(kids[0])
		return
	}
	w.pattern(kids[0])
	w.expressions(kids[1:])
	w.addSlots(w.variables(kids[0]))
}

// continuation writes the continuation of a Prefix.
func (w *writer) continuation(i int) {
	if number, ok := w.byNode[i]; ok {
		w.call(number, nil)
		return
	}
	w.expression(i)
}

// rename writes a Rename.
func (w *writer) rename(i int) {
	kids := w.Kids(i)
	w.emit(api.CodeRename, 0, w.Nodes[kids[1]].Kids+1)
	w.expression(kids[0])
	w.parts(kids[1])
}

// link writes a Link.
func (w *writer) link(i int) {
	kids := w.Kids(i)
	w.emit(api.CodeLink, 0, w.Nodes[kids[1]].Kids+2)
	w.expression(kids[0])
	w.parts(kids[1])
	w.expression(kids[2])
}

// repeat writes a Repeat.
func (w *writer) repeat(i int) {
	kids := w.Kids(i)
	n := w.Nodes[i]
	parts := len(kids) - 1
	for _, kid := range kids {
		if w.Nodes[kid].Op == api.OpParams {
			parts += w.Nodes[kid].Kids
		}
	}
	if n.Int == api.OpInter {
		w.emit(api.CodeRepeat, api.ProcParallel, parts+1)
		w.emit(api.CodeSet, 0, 0)
	} else {
		w.emit(api.CodeRepeat, processOperator(int(n.Int)), parts)
	}
	for _, kid := range kids {
		if w.Nodes[kid].Op == api.OpParams {
			w.parts(kid)
		} else {
			w.expression(kid)
		}
	}
}
