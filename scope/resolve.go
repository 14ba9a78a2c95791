package scope

import "cspcheck/api"

// resolveAll resolves the names that declare nothing, after all symbols have been added.
func (x *program) resolveAll() {
	x.enter(x.builtins)
	x.enter(x.scopes[0])
	x.resolve(0)
}

// enter makes a scope visible.
func (x *program) enter(scope map[string]int) {
	x.visible = append(x.visible, scope)
}

// resolve resolves the names in a subtree.
func (x *program) resolve(i int) {
	n := x.Nodes[i]
	outside := len(x.visible)
	switch n.Op {
	case api.OpProgram, api.OpBlock:
		x.resolveSigs(i)
	case api.OpLet:
		x.enter(x.scopes[i+1])
	case api.OpFun, api.OpLambda:
		x.enter(x.scopes[i])
	case api.OpName:
		x.resolveName(i)
	case api.OpTypeName:
		x.lookUp(i, x.types)
	case api.OpClass:
		if n.Str != "Eq" && n.Str != "Ord" && n.Str != "Set" {
			x.errors[i] = api.ErrName
		}
	}
	for _, kid := range x.InScopeOrder(i) {
		x.resolve(kid)
	}
	switch n.Op {
	case api.OpGen, api.OpInput, api.OpSome:
		x.enter(x.scopes[i])
	case api.OpParams:
	default:
		x.visible = x.visible[:outside]
	}
}

// resolveSigs resolves the Sigs of a block.
func (x *program) resolveSigs(block int) {
	signed := map[string]bool{}
	for _, d := range x.Kids(block) {
		n := &x.Nodes[d]
		if n.Op != api.OpSig {
			continue
		}
		k, ok := x.values[value{block, n.Str}]
		n.Int = int64(k)
		switch {
		case signed[n.Str]:
			x.errors[d] = api.ErrDuplicate
		case !ok:
			x.errors[d] = api.ErrName
		}
		signed[n.Str] = true
	}
}

// resolveName resolves a Name that declares nothing.
func (x *program) resolveName(i int) {
	switch n := x.Nodes[i]; {
	case n.Int == isConstant:
		x.lookUp(i, x.scopes[0])
	case x.symbols[n.Int].Node != i:
		x.lookUp(i, x.innermost(n.Str))
	}
}

// innermost returns the innermost visible scope that has a name. If there is none, it returns the outermost one.
func (x *program) innermost(name string) map[string]int {
	for k := len(x.visible) - 1; k > 0; k-- {
		if _, ok := x.visible[k][name]; ok {
			return x.visible[k]
		}
	}
	return x.visible[0]
}

// lookUp gives a node the number of its name.
func (x *program) lookUp(i int, numbers map[string]int) {
	k, ok := numbers[x.Nodes[i].Str]
	if !ok {
		x.errors[i] = api.ErrName
	}
	x.Nodes[i].Int = int64(k)
}
