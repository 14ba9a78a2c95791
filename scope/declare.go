package scope

import "cspcheck/api"

// isConstant is the Int of a Name in a pattern that denotes a constructor or channel, as long as not all of these have their numbers.
const isConstant = -1

// declare adds the symbols that the nodes of a subtree declare. What a Fun or Bind declares is added for the block that has it.
func (x *program) declare(i int) {
	n := x.Nodes[i]
	switch n.Op {
	case api.OpProgram:
		x.declareBlock(i, api.SymGlobal)
		return
	case api.OpBlock:
		x.declareBlock(i, api.SymLocal)
		return
	case api.OpData:
		x.addData(i)
	case api.OpCon:
		x.add(i, 0, api.SymCon, n.Kids)
	case api.OpNametype:
		x.add(i, 0, api.SymNametype, 0)
	case api.OpChannel:
		x.addChannels(i)
	case api.OpFun, api.OpLambda:
		for _, pattern := range x.Kids(i + 1) {
			x.addVariables(pattern, i, api.SymVar)
		}
	case api.OpGen, api.OpInput, api.OpSome:
		x.addVariables(i+1, i, api.SymVar)
	}
	for _, kid := range x.Kids(i) {
		x.declare(kid)
	}
}

// declareBlock adds the symbols of a block, of which the functions and variables have a kind.
func (x *program) declareBlock(block, kind int) {
	before := block
	for _, d := range x.Kids(block) {
		switch x.Nodes[d].Op {
		case api.OpFun:
			if x.isClause(d, before) {
				x.addClause(d, before)
			} else {
				x.add(d, block, kind, x.parameters(d))
			}
		case api.OpBind:
			x.addVariables(d+1, block, kind)
		}
		x.declare(d)
		before = d
	}
}

// isClause reports whether a Fun is a further clause of the function that the declaration before it declares.
func (x *program) isClause(fun, before int) bool {
	n, last := x.Nodes[fun], x.Nodes[before]
	return x.parameters(fun) > 0 && last.Op == api.OpFun && last.Str == n.Str
}

func (x *program) parameters(fun int) int {
	return x.Nodes[fun+1].Kids
}

func (x *program) addClause(fun, before int) {
	k := x.Nodes[before].Int
	x.Nodes[fun].Int = k
	if x.parameters(fun) != x.symbols[k].Arity {
		x.errors[fun] = api.ErrType
	}
}

// add adds the symbol that a node declares in a block, or in another node that has a scope.
func (x *program) add(i, block, kind, arity int) {
	k := len(x.symbols)
	name := x.Nodes[i].Str
	x.symbols = append(x.symbols, api.Symbol{Name: name, Kind: kind, Node: i, Arity: arity})
	x.Nodes[i].Int = int64(k)
	if kind == api.SymGlobal || kind == api.SymLocal {
		put(x.values, value{block, name}, k)
	}
	if x.scopes[block] == nil {
		x.scopes[block] = map[string]int{}
	}
	_, isBuiltin := x.builtins[name]
	if !put(x.scopes[block], name, k) || isBuiltin && block == 0 {
		x.errors[i] = api.ErrDuplicate
	}
}

// put puts a number into a map, unless there is one for this key. It reports whether it has done so.
func put[K comparable](m map[K]int, key K, number int) bool {
	if _, ok := m[key]; ok {
		return false
	}
	m[key] = number
	return true
}

func (x *program) addData(i int) {
	x.add(i, 0, api.SymData, 0)
	if !put(x.types, x.Nodes[i].Str, int(x.Nodes[i].Int)) {
		x.errors[i] = api.ErrDuplicate
	}
}

func (x *program) addChannels(i int) {
	arity := 0
	if x.Nodes[i].Int == 1 {
		arity = x.parts(x.Kids(i)[len(x.channels(i))])
	}
	for _, name := range x.channels(i) {
		x.add(name, 0, api.SymChannel, arity)
	}
}

// parts returns the number of the parts of an expression: one more than there are Dots on its left spine.
func (x *program) parts(i int) int {
	parts := 1
	for ; x.Nodes[i].Op == api.OpDot; i++ {
		parts++
	}
	return parts
}

// addVariables adds the symbols of the Names that bind in a pattern.
func (x *program) addVariables(pattern, block, kind int) {
	for i := pattern; i < x.Ends[pattern]; i++ {
		switch n := x.Nodes[i]; {
		case n.Op != api.OpName:
		case x.constants[n.Str]:
			x.Nodes[i].Int = isConstant
		default:
			x.add(i, block, kind, 0)
		}
	}
}
