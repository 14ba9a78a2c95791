package core

import "cspcheck/api"

// writer writes the body of a function.
type writer struct {
	*program
	code  []api.Code
	slots map[int]int // by captured symbol, variable, and function that is bound by a Let, its slot
	added int         // the number of slots that have been added on the way to the current node
}

// written returns the core of a program whose functions have all been added.
func (x *program) written() (api.Core, api.Errno) {
	c := x.core
	if len(x.functions) > maxFuncs {
		return api.Core{}, api.ErrFull
	}
	for _, f := range x.functions {
		f.Body = x.body(f)
		if _, ok := treeOf(f.Func); !ok {
			return api.Core{}, api.ErrFull
		}
		c.Funcs = append(c.Funcs, f.Func)
	}
	return c, api.OK
}

// body returns the body of a function.
func (x *program) body(f function) []api.Code {
	w := writer{program: x, slots: map[int]int{}, added: f.Arity}
	for slot, symbol := range f.captured {
		w.slots[symbol] = slot
	}
	f.write(&w)
	return w.code
}

// emit adds a node. A body that is too large already does not grow any more.
func (w *writer) emit(op int, number int, kids int) {
	if len(w.code) <= api.MaxNodes {
		w.code = append(w.code, api.Code{Op: op, Int: int64(number), Kids: kids})
	}
}

// addSlots adds slots for variables.
func (w *writer) addSlots(variables []int) {
	for _, symbol := range variables {
		w.slots[symbol] = w.added
		w.added++
	}
}

// byClauses writes the body of a function whose clauses are Funs or a Lambda.
func (w *writer) byClauses(clauses []int) {
	arity := w.added
	w.emit(api.CodeClause, 0, len(clauses))
	for _, clause := range clauses {
		kids := w.Kids(clause)
		patterns := w.Kids(kids[0])
		w.emit(api.CodeTuple, 0, len(patterns)+1)
		for _, p := range patterns {
			w.pattern(p)
		}
		w.addSlots(w.variables(kids[0]))
		w.expression(kids[1])
		w.added = arity
	}
}

// call writes a function with its captured symbols and some arguments.
func (w *writer) call(number int, arguments []int) {
	f := w.functions[number]
	given := len(f.captured) + len(arguments)
	op := api.CodeCall
	switch {
	case given < f.Arity:
		op = api.CodeFun
	case f.Proc:
		op = api.CodeProc
	}
	w.emit(op, number, given)
	for _, symbol := range f.captured {
		w.emit(api.CodeSlot, w.slots[symbol], 0)
	}
	w.expressions(arguments)
}

// name writes the value of a Name.
func (w *writer) name(symbol int) {
	s := w.symbols[symbol]
	slot, isVariable := w.slots[symbol]
	switch {
	case isVariable:
		w.emit(api.CodeSlot, slot, 0)
	case s.Kind == api.SymData:
		w.emit(api.CodeData, w.numbers[symbol], 0)
	case w.isConstant(symbol):
		w.emit(api.CodeName, w.numbers[symbol], 0)
	case s.Kind == api.SymBuiltin && s.Arity == 0:
		w.constant(s.Name)
	default:
		w.call(w.bySymbol[symbol], nil)
	}
}

// constant writes a builtin without parameters.
func (w *writer) constant(name string) {
	switch name {
	case "Events":
		w.emit(api.CodePrim, api.PrimEvents, 0)
	case "Bool":
		w.emit(api.CodeSet, 0, 2)
		w.emit(api.CodeBool, 0, 0)
		w.emit(api.CodeBool, 1, 0)
	case "Int":
		w.emit(api.CodePrim, api.PrimInts, 0)
	}
}

// apply writes an Apply.
func (w *writer) apply(i int) {
	kids := w.Kids(i)
	k, ok := w.applied(i)
	switch {
	case !ok:
		w.emit(api.CodeApply, 0, len(kids))
		w.expressions(kids)
	case w.symbols[k].Kind == api.SymBuiltin:
		w.emit(api.CodePrim, primitiveOf(w.symbols[k].Name), len(kids)-1)
		w.expressions(kids[1:])
	default:
		w.call(w.bySymbol[k], kids[1:])
	}
}

// let writes a Let. The slots of its bindings are added before their code.
func (w *writer) let(i int) {
	kids := w.Kids(i)
	var bindings []func()
	for _, d := range w.Kids(kids[0]) {
		n := w.Nodes[d]
		switch {
		case n.Op == api.OpBind:
			bindings = append(bindings, w.bind(d)...)
		case n.Op == api.OpFun && !w.isLifted(int(n.Int)):
			w.addSlots([]int{int(n.Int)})
			bindings = append(bindings, func() { w.expression(w.Kids(d)[1]) })
		}
	}
	if len(bindings) > 0 {
		w.emit(api.CodeLet, len(bindings), len(bindings)+1)
	}
	for _, write := range bindings {
		write()
	}
	w.expression(kids[1])
}

// bind adds the slots of a Bind of a Let, and returns what writes its bindings: the expression and the variables of the pattern.
func (w *writer) bind(i int) []func() {
	kids := w.Kids(i)
	whole := w.added
	w.added++
	variables := w.variables(kids[0])
	w.addSlots(variables)
	bindings := []func(){func() { w.expression(kids[1]) }}
	for k := range variables {
		bindings = append(bindings, func() { w.selection(func() { w.emit(api.CodeSlot, whole, 0) }, kids[0], k) })
	}
	return bindings
}

// selection writes what selects a variable of a pattern from a value.
func (w *writer) selection(value func(), pattern, variable int) {
	w.emit(api.CodeSelect, 0, 3)
	value()
	w.pattern(pattern)
	w.emit(api.CodeSlot, w.added+variable, 0)
}

func (w *writer) expressions(l []int) {
	for _, i := range l {
		w.expression(i)
	}
}
