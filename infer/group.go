package infer

import (
	"slices"

	"cspcheck/api"
	"cspcheck/scope"
)

// block infers the types of the functions and Binds of a block, which may be the program.
func (x *program) block(i int) {
	units, others := x.units(i)
	for _, symbols := range scope.Groups(x.Nodes, x.symbols, i) {
		var definitions []int
		for _, k := range symbols {
			definitions = append(definitions, units[k]...)
		}
		x.group(i, symbols, definitions)
	}
	for _, bind := range others {
		x.group(i, nil, []int{bind})
	}
}

// units returns the Funs or the Bind of each unit of a block, by its least symbol, and the Binds without variables.
func (x *program) units(block int) (map[int][]int, []int) {
	units := map[int][]int{}
	var others []int
	for _, d := range x.Kids(block) {
		switch n := x.Nodes[d]; n.Op {
		case api.OpFun:
			units[int(n.Int)] = append(units[int(n.Int)], d)
		case api.OpBind:
			if l := x.variablesOf(d + 1); len(l) > 0 {
				units[l[0]] = []int{d}
			} else {
				others = append(others, d)
			}
		}
	}
	return units, others
}

// variablesOf returns the symbols that a pattern declares.
func (x *program) variablesOf(pattern int) []int {
	var l []int
	for i := pattern; i < x.Ends[pattern]; i++ {
		n := x.Nodes[i]
		if n.Op == api.OpName && x.symbols[n.Int].Node == i {
			l = append(l, int(n.Int))
		}
	}
	return l
}

// group infers the types of the symbols of a group of a block from the Funs and Binds that define them.
func (x *program) group(block int, symbols, definitions []int) {
	outside, outer := len(x.open), x.needs
	x.needs = nil
	x.open = append(x.open, symbols...)
	for _, d := range definitions {
		x.definition(d)
	}
	x.open = append(x.open[:outside], slices.DeleteFunc(slices.Clone(symbols), x.isFunction)...)
	x.reduce()
	if x.failure != api.OK {
		return
	}
	classes := x.classes()
	x.checkSigs(symbols, classes)
	x.quantify(symbols, classes)
	x.forgetGround(outside)
	if block == 0 {
		x.needs = nil
	}
	x.needs = append(outer, x.needs...)
}

func (x *program) isFunction(k int) bool {
	return x.Nodes[x.symbols[k].Node].Op == api.OpFun
}

// definition infers the types of a clause of a function, or of a Bind.
func (x *program) definition(i int) {
	kids := x.Kids(i)
	if x.Nodes[i].Op == api.OpBind {
		t := x.expression(kids[1])
		x.require(i, x.pattern(kids[0]), t)
		return
	}
	outside := len(x.open)
	t := x.lambda(kids[0], kids[1])
	x.open = x.open[:outside]
	x.require(i, x.schemes[x.Nodes[i].Int].typ, t)
}

// lambda returns the type of a function with Params and an expression. That of one without parameters is the type of the expression.
func (x *program) lambda(params, body int) *term {
	var parts []*term
	for _, pattern := range x.Kids(params) {
		parts = append(parts, x.pattern(pattern))
	}
	t := x.expression(body)
	if len(parts) == 0 {
		return t
	}
	return function(append(parts, t)...)
}

// quantify quantifies the variables of the functions of a group, as far as they do not occur in the types of open symbols. The needs of those variables are no longer needs of the group.
func (x *program) quantify(symbols []int, classes map[int]int) {
	fixed := x.fixed(-1)
	quantified := map[int]bool{}
	for _, k := range symbols {
		if !x.isFunction(k) {
			continue
		}
		s := &x.schemes[k]
		for _, v := range x.variables(s.typ) {
			if fixed[v] {
				continue
			}
			quantified[v] = true
			s.quantified = append(s.quantified, v)
			if classes[v] != 0 {
				s.needs = append(s.needs, api.Need{Var: v, Classes: classes[v]})
			}
		}
	}
	x.needs = slices.DeleteFunc(x.needs, func(n need) bool { return quantified[n.typ.node.Num] })
}

// fixed tells for each variable whether it occurs in the types of open symbols, but for one of these. (It does so for replaced ones, too.)
func (x *program) fixed(but int) []bool {
	seen := make([]bool, x.next)
	for _, k := range x.open {
		if k != but {
			x.appendVariables(nil, x.schemes[k].typ, seen)
		}
	}
	return seen
}

// forgetGround forgets the open symbols from a place on whose types have no variables. They will never have any.
func (x *program) forgetGround(from int) {
	rest := slices.DeleteFunc(x.open[from:], func(k int) bool { return len(x.variables(x.schemes[k].typ)) == 0 })
	x.open = x.open[:from+len(rest)]
}
