package core

import "cspcheck/api"

// liftAll searches the functions in the queue for functions that are lifted, which join it.
func (x *program) liftAll() {
	for len(x.queue) > 0 {
		f := x.queue[0]
		x.queue = x.queue[1:]
		x.functions = append(x.functions, f)
		for _, root := range f.roots {
			x.lift(root)
		}
	}
}

// lift adds the functions that are lifted from a part of a body. What is inside of these is left for later.
func (x *program) lift(i int) {
	n := x.Nodes[i]
	kids := x.InScopeOrder(i)
	switch n.Op {
	case api.OpLambda:
		x.addLambda(i)
		return
	case api.OpFun:
		if x.isLifted(int(n.Int)) {
			return
		}
	case api.OpLet:
		x.addFuns(kids[0])
	case api.OpName:
		x.addBuiltin(int(n.Int))
	case api.OpApply:
		if k, ok := x.applied(i); ok && x.symbols[k].Kind == api.SymBuiltin {
			kids = kids[1:]
		}
	case api.OpPrefix:
		x.liftFromPrefix(i)
		return
	}
	for _, kid := range kids {
		x.lift(kid)
	}
}

// liftFromPrefix adds the functions that are lifted from a Prefix, of which the continuation is the last one.
func (x *program) liftFromPrefix(i int) {
	kids := x.Kids(i)
	last := len(kids) - 1
	for _, kid := range kids[:last] {
		x.lift(kid)
	}
	if x.hasFunction(kids[last]) {
		x.addContinuation(i, kids[last])
	}
}

// applied returns the function that an Apply calls with as many arguments as it has parameters, or false if there is none.
func (x *program) applied(apply int) (int, bool) {
	k, ok := x.named(apply + 1)
	if !ok || x.symbols[k].Kind != api.SymBuiltin && !x.isFunction(k) {
		return 0, false
	}
	return k, x.symbols[k].Arity == x.Nodes[apply].Kids-1
}

func (x *program) addLambda(i int) {
	n := x.Nodes[i]
	f := x.ofClauses([]int{i}, api.Func{Arity: x.Nodes[i+1].Kids, Pos: n.Pos})
	f.captured = x.capturedBy(i)
	x.byNode[i] = x.add(f)
}

// addFuns adds the functions of the block of a Let that are lifted.
func (x *program) addFuns(block int) {
	for _, d := range x.Kids(block) {
		n := x.Nodes[d]
		if n.Op == api.OpFun && x.isLifted(int(n.Int)) && x.symbols[n.Int].Node == d {
			x.addFun(int(n.Int))
		}
	}
}

// addBuiltin adds the function of a builtin with parameters when it is used as a value for the first time.
func (x *program) addBuiltin(symbol int) {
	s := x.symbols[symbol]
	_, added := x.bySymbol[symbol]
	if s.Kind != api.SymBuiltin || s.Arity == 0 || added {
		return
	}
	x.bySymbol[symbol] = x.add(function{
		Func: api.Func{Name: s.Name, Arity: s.Arity},
		write: func(w *writer) {
			w.emit(api.CodePrim, primitiveOf(s.Name), s.Arity)
			for k := range s.Arity {
				w.emit(api.CodeSlot, k, 0)
			}
		},
	})
}

// hasFunction reports whether the continuation of a Prefix becomes a function of its own.
func (x *program) hasFunction(continuation int) bool {
	switch n := x.Nodes[continuation]; n.Op {
	case api.OpStop, api.OpSkip:
		return false
	case api.OpName:
		return x.symbols[n.Int].Kind != api.SymGlobal || !x.isProcess(int(n.Int))
	}
	return true
}

func (x *program) addContinuation(prefix, continuation int) {
	f := ofExpression(continuation, api.Func{Proc: true, Pos: x.Nodes[prefix].Pos})
	f.captured = x.capturedBy(continuation)
	x.byNode[continuation] = x.add(f)
}
