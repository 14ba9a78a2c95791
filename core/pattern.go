package core

import "cspcheck/api"

// pattern writes the code of a pattern.
func (w *writer) pattern(i int) {
	n := w.Nodes[i]
	kids := w.Kids(i)
	switch n.Op {
	case api.OpName:
		if w.isConstantName(i) {
			w.dot(i, nil)
		} else {
			w.emit(api.PatVar, 0, 0)
		}
	case api.OpWild:
		w.emit(api.PatWild, 0, 0)
	case api.OpInt:
		w.emit(api.PatInt, int(n.Int), 0)
	case api.OpNeg:
		w.emit(api.PatInt, -int(w.Nodes[kids[0]].Int), 0)
	case api.OpTrue:
		w.emit(api.PatBool, 1, 0)
	case api.OpFalse:
		w.emit(api.PatBool, 0, 0)
	case api.OpTuple:
		w.patterns(api.PatTuple, kids)
	case api.OpSeq:
		w.patterns(api.PatSeq, kids)
	case api.OpSet:
		w.patterns(api.PatSet, kids)
	case api.OpBoth:
		w.patterns(api.PatBoth, kids)
	case api.OpCat:
		w.chain(i)
	case api.OpDot:
		if parts := w.spine(i); w.isConstantName(parts[0]) {
			w.dot(parts[0], parts[1:])
		} else {
			w.patterns(api.PatPair, kids)
		}
	}
}

// patterns writes a pattern with an operator and parts.
func (w *writer) patterns(op int, parts []int) {
	w.emit(op, 0, len(parts))
	for _, p := range parts {
		w.pattern(p)
	}
}

// isConstantName reports whether a node is the Name of a constructor or channel.
func (w *writer) isConstantName(i int) bool {
	k, ok := w.named(i)
	return ok && w.isConstant(k)
}

// dot writes the pattern of a constructor or channel with fields.
func (w *writer) dot(name int, fields []int) {
	w.emit(api.PatDot, w.numbers[int(w.Nodes[name].Int)], len(fields))
	for _, p := range fields {
		w.pattern(p)
	}
}

// chain writes the pattern of a chain of Cats: the elements of its Seqs, and in their middle what matches all other elements, if the chain has it.
func (w *writer) chain(i int) {
	var parts []int
	rest := -1
	for _, operand := range w.operands(i) {
		if w.Nodes[operand].Op == api.OpSeq {
			parts = append(parts, w.Kids(operand)...)
			continue
		}
		rest = len(parts)
		parts = append(parts, operand)
	}
	if rest < 0 {
		w.patterns(api.PatSeq, parts)
		return
	}
	w.emit(api.PatCat, rest, len(parts))
	for _, p := range parts {
		w.pattern(p)
	}
}

// operands returns the operands of a chain of Cats.
func (w *writer) operands(i int) []int {
	if w.Nodes[i].Op != api.OpCat {
		return []int{i}
	}
	kids := w.Kids(i)
	return append(w.operands(kids[0]), w.operands(kids[1])...)
}
