package core

import (
	"slices"

	"cspcheck/api"
)

// declareAll adds the functions of the declarations of the program, and describes its names and assertions.
func (x *program) declareAll() {
	datatypes := 0
	for _, d := range x.Kids(0) {
		n := x.Nodes[d]
		switch n.Op {
		case api.OpFun:
			if x.symbols[n.Int].Node == d {
				x.addFun(int(n.Int))
			}
		case api.OpBind:
			x.addBind(d)
		case api.OpNametype:
			x.bySymbol[int(n.Int)] = x.add(ofExpression(x.Kids(d)[0], api.Func{Name: n.Str, Pos: n.Pos}))
		case api.OpData:
			x.numbers[int(n.Int)] = datatypes
			x.addConstructors(d, datatypes)
			datatypes++
		case api.OpChannel:
			x.addChannels(d)
		case api.OpRefine, api.OpCheck, api.OpTrace:
			x.addAssertion(d)
		}
	}
}

// ofExpression returns a function without parameters but captured symbols, whose body is an expression.
func ofExpression(expression int, head api.Func) function {
	return function{
		Func:  head,
		roots: []int{expression},
		write: func(w *writer) { w.expression(expression) },
	}
}

// ofClauses returns a function whose clauses are Funs or a Lambda.
func (x *program) ofClauses(clauses []int, head api.Func) function {
	f := function{Func: head, write: func(w *writer) { w.byClauses(clauses) }}
	for _, clause := range clauses {
		f.roots = append(f.roots, x.Kids(clause)[1])
	}
	return f
}

// addFun adds a function of the program or of a Let.
func (x *program) addFun(symbol int) {
	s := x.symbols[symbol]
	head := api.Func{Name: s.Name, Arity: s.Arity, Proc: x.isProcess(symbol), Pos: x.Nodes[s.Node].Pos}
	f := x.ofClauses(x.clauses[symbol], head)
	if s.Arity == 0 {
		f = ofExpression(f.roots[0], head)
	}
	f.captured = x.captured[symbol]
	x.bySymbol[symbol] = x.add(f)
}

// addBind adds the functions of a Bind of the program: that of its expression and those of its variables.
func (x *program) addBind(bind int) {
	kids := x.Kids(bind)
	whole := x.add(ofExpression(kids[1], api.Func{Pos: x.Nodes[bind].Pos}))
	for k, symbol := range x.variables(kids[0]) {
		n := x.Nodes[x.symbols[symbol].Node]
		x.bySymbol[symbol] = x.add(function{
			Func: api.Func{Name: n.Str, Proc: x.isProcess(symbol), Pos: n.Pos},
			write: func(w *writer) {
				w.selection(func() { w.call(whole, nil) }, kids[0], k)
			},
		})
	}
}

// variables returns the symbols that the Names of a pattern declare.
func (x *program) variables(pattern int) []int {
	var l []int
	for i := pattern; i < x.Ends[pattern]; i++ {
		if k, ok := x.named(i); ok && !x.isConstant(k) {
			l = append(l, k)
		}
	}
	return l
}

// isConstant reports whether a symbol is a constructor or channel.
func (x *program) isConstant(symbol int) bool {
	kind := x.symbols[symbol].Kind
	return kind == api.SymCon || kind == api.SymChannel
}

// addExpression adds the function of an expression that is a field, a part or an operand.
func (x *program) addExpression(i int, isProcess bool, pos api.Pos) int {
	return x.add(ofExpression(i, api.Func{Proc: isProcess, Pos: pos}))
}

// addFields adds the functions of fields, or parts, and returns their numbers.
func (x *program) addFields(fields []int) []int {
	var l []int
	for _, f := range fields {
		l = append(l, x.addExpression(f, false, x.Nodes[f].Pos))
	}
	return l
}

// addConstructors adds the fields of the constructors of a datatype, and describes the constructors.
func (x *program) addConstructors(data, number int) {
	for _, con := range x.Kids(data) {
		x.addName(con, api.Info{Data: number, Fields: x.addFields(x.Kids(con))})
	}
}

// addChannels adds the parts of the Expr of a Channel, and describes the channels.
func (x *program) addChannels(channel int) {
	names := x.Kids(channel)
	var fields []int
	if x.Nodes[channel].Int == 1 {
		last := len(names) - 1
		fields = x.addFields(x.spine(names[last]))
		names = names[:last]
	}
	for _, name := range names {
		x.addName(name, api.Info{Data: noDatatype, Fields: slices.Clone(fields)})
	}
}

// addName describes the constructor or channel that a node declares.
func (x *program) addName(i int, info api.Info) {
	n := x.Nodes[i]
	info.Name = n.Str
	x.numbers[int(n.Int)] = len(x.core.Names)
	x.core.Names = append(x.core.Names, info)
}

// spine returns the parts of an expression between the Dots on its left spine.
func (x *program) spine(i int) []int {
	if x.Nodes[i].Op != api.OpDot {
		return []int{i}
	}
	kids := x.Kids(i)
	return append(x.spine(kids[0]), kids[1])
}

// addAssertion adds the operands of an assertion, and describes it.
func (x *program) addAssertion(i int) {
	n := x.Nodes[i]
	kids := x.Kids(i)
	a := api.Assert{Op: n.Op, Int: int(n.Int), Pos: n.Pos, Right: none}
	a.Left = x.addExpression(kids[0], true, n.Pos)
	if n.Op != api.OpCheck {
		a.Right = x.addExpression(kids[1], n.Op == api.OpRefine, n.Pos)
	}
	x.core.Asserts = append(x.core.Asserts, a)
}
