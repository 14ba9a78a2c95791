package modules_test

import (
	"slices"
	"strings"

	"cspcheck/api"
)

// oracle decides on each node of a valid program by the sentences of the chapter, from the node upwards.
type oracle struct {
	p      []api.Node
	kids   [][]int
	parent []int
	end    []int
}

func newOracle(p []api.Node) *oracle {
	o := &oracle{p: p, kids: make([][]int, len(p)), parent: make([]int, len(p)), end: make([]int, len(p))}
	o.enter(0, -1)
	return o
}

// enter notes the places of the nodes of a subtree. It returns the index behind it.
func (o *oracle) enter(i, parent int) int {
	o.parent[i] = parent
	next := i + 1
	for range o.p[i].Kids {
		o.kids[i] = append(o.kids[i], next)
		next = o.enter(next, i)
	}
	o.end[i] = next
	return next
}

// op returns the operator of a node, or 0 if there is none.
func (o *oracle) op(i int) int {
	if i < 0 {
		return 0
	}
	return o.p[i].Op
}

func (o *oracle) moduleAround(i int) int {
	for i >= 0 && o.op(i) != api.OpModule {
		i = o.parent[i]
	}
	return i
}

// owner returns the node that has a declaration in its blocks; a Timed in a module counts as this module.
func (o *oracle) owner(declaration int) int {
	i := o.parent[declaration]
	if o.op(i) == api.OpBlock {
		i = o.parent[i]
	}
	if o.op(i) == api.OpTimed {
		return o.owner(i)
	}
	return i
}

// isPattern reports whether a node is a whole pattern.
func (o *oracle) isPattern(i int) bool {
	up := o.parent[i]
	isFirst := up >= 0 && o.kids[up][0] == i
	switch o.op(up) {
	case api.OpGen, api.OpBind, api.OpInput, api.OpSome:
		return isFirst
	case api.OpParams:
		up = o.parent[up]
		return o.op(up) == api.OpFun || o.op(up) == api.OpLambda
	}
	return false
}

// patternAround returns the whole pattern in which a node is, or -1.
func (o *oracle) patternAround(i int) int {
	for i >= 0 && !o.isPattern(i) {
		i = o.parent[i]
	}
	return i
}

// constantIn reports whether a declaration of a module, or of the program, which is node 0, declares a constructor or channel.
func (o *oracle) constantIn(owner int, name string) bool {
	for i, n := range o.p {
		isChannel := i > 0 && n.Op == api.OpName && o.op(o.parent[i]) == api.OpChannel && !o.isLastOfTyped(i)
		if n.Str == name && (n.Op == api.OpCon || isChannel) && o.owner(o.parent[i]) == owner {
			return true
		}
	}
	return false
}

// isLastOfTyped reports whether a child of a Channel is its Expr.
func (o *oracle) isLastOfTyped(i int) bool {
	c := o.parent[i]
	return o.p[c].Int == 1 && o.end[i] == o.end[c]
}

func (o *oracle) isConstant(i int) bool {
	module := o.moduleAround(i)
	return o.constantIn(0, o.p[i].Str) || module >= 0 && o.constantIn(module, o.p[i].Str)
}

// binds reports whether a Name in a pattern binds.
func (o *oracle) binds(i int) bool {
	return o.op(i) == api.OpName && o.patternAround(i) >= 0 && !o.isConstant(i)
}

// declares reports whether a node declares its name for a module.
func (o *oracle) declares(module, i int) bool {
	up := o.parent[i]
	switch o.op(i) {
	case api.OpFun, api.OpData, api.OpNametype:
		return o.owner(i) == module
	case api.OpCon:
		return o.owner(up) == module
	case api.OpName:
		switch o.op(up) {
		case api.OpChannel:
			return o.owner(up) == module && !o.isLastOfTyped(i)
		case api.OpParams:
			return o.parent[up] == module
		}
		pattern := o.patternAround(i)
		return pattern >= 0 && o.op(o.parent[pattern]) == api.OpBind && o.owner(o.parent[pattern]) == module && o.binds(i)
	}
	return false
}

// declarers returns the nodes that declare a name for a module.
func (o *oracle) declarers(module int, name string) []int {
	var l []int
	for i := module; i < o.end[module]; i++ {
		if o.p[i].Str == name && o.declares(module, i) {
			l = append(l, i)
		}
	}
	return l
}

// binder returns the node of the table that binds the names of a pattern.
func (o *oracle) binder(pattern int) int {
	i := o.parent[pattern]
	for {
		switch o.op(i) {
		case api.OpFun, api.OpLambda, api.OpLet, api.OpSeqComp, api.OpSetComp, api.OpEvComp, api.OpRepeat, api.OpRename, api.OpPrefix:
			return i
		case api.OpProgram, api.OpModule:
			return -1
		}
		i = o.parent[i]
	}
}

// sees reports whether node i is where the names of a pattern are visible.
func (o *oracle) sees(i, pattern int) bool {
	b := o.binder(pattern)
	if b < 0 || i < b || i >= o.end[b] {
		return false
	}
	later := i >= o.end[o.parent[pattern]]
	in := func(k int) bool { return k <= i && i < o.end[k] }
	switch o.op(b) {
	case api.OpLet:
		return true
	case api.OpFun, api.OpLambda:
		return in(o.kids[b][1])
	case api.OpSeqComp, api.OpSetComp, api.OpEvComp:
		return later || in(o.kids[b][0])
	case api.OpRename:
		for _, k := range o.kids[o.kids[b][1]] {
			if o.op(k) == api.OpPair && in(k) {
				return true
			}
		}
	}
	return later
}

// isBound reports whether a name that does not bind is bound around its node inside the module.
func (o *oracle) isBound(i int) bool {
	for j, n := range o.p {
		if n.Str != o.p[i].Str || o.moduleAround(j) != o.moduleAround(i) {
			continue
		}
		if o.binds(j) && o.sees(i, o.patternAround(j)) {
			return true
		}
		let := o.parent[o.parent[max(j, 1)]]
		if n.Op == api.OpFun && o.op(let) == api.OpLet && let < i && i < o.end[let] {
			return true
		}
	}
	return false
}

// denotes reports whether the name of a node in a module denotes a member.
func (o *oracle) denotes(i int) bool {
	module := o.moduleAround(i)
	declarers := o.declarers(module, o.p[i].Str)
	if len(declarers) == 0 {
		return false
	}
	switch o.op(i) {
	case api.OpTypeName:
		return o.op(declarers[0]) == api.OpData
	case api.OpFun, api.OpSig, api.OpData, api.OpCon, api.OpNametype, api.OpName:
	default:
		return false
	}
	if o.binds(i) {
		return o.declares(module, i)
	}
	return !o.isBound(i)
}

// copies appends the declarations of a module for an instance. It returns their number, too.
func (o *oracle) copies(q []api.Node, module int, instance string) ([]api.Node, int) {
	count := 0
	for _, block := range o.kids[module][1:] {
		for i := block + 1; i < o.end[block]; i++ {
			n := o.p[i]
			if o.denotes(i) {
				n.Str = instance + "::" + n.Str
			}
			q = append(q, n)
		}
		count += len(o.kids[block])
	}
	return q, count
}

// moduleNamed returns the first Module with a name that is a declaration of the program, or -1.
func (o *oracle) moduleNamed(name string) int {
	for _, i := range o.kids[0] {
		if o.op(i) == api.OpModule && o.p[i].Str == name {
			return i
		}
	}
	return -1
}

// expand returns the expansion of a program without errors.
func (o *oracle) expand() []api.Node {
	q := []api.Node{o.p[0]}
	q[0].Kids = 0
	for _, i := range o.kids[0] {
		n, count := o.p[i], 1
		switch n.Op {
		case api.OpModule:
			count = 0
			if len(o.kids[o.kids[i][0]]) == 0 {
				q, count = o.copies(q, i, n.Str)
			}
		case api.OpInstance:
			m := o.moduleNamed(o.p[o.kids[i][0]].Str)
			parameters, arguments := o.kids[o.kids[m][0]], o.kids[o.kids[i][1]]
			for k, a := range arguments {
				q = append(q, api.Node{Op: api.OpFun, Str: n.Str + "::" + o.p[parameters[k]].Str, Kids: 2, Pos: n.Pos}, api.Node{Op: api.OpParams})
				q = append(q, o.p[a:o.end[a]]...)
			}
			q, count = o.copies(q, m, n.Str)
			count += len(arguments)
		default:
			q = append(q, o.p[i:o.end[i]]...)
		}
		q[0].Kids += count
	}
	return q
}

// exports reports whether a name written with :: denotes an exported member of an instance.
func (o *oracle) exports(long string) bool {
	instance, name, _ := strings.Cut(long, "::")
	for i, n := range o.p {
		m := -1
		switch {
		case n.Str != instance:
		case n.Op == api.OpModule && len(o.kids[o.kids[i][0]]) == 0:
			m = i
		case n.Op == api.OpInstance:
			m = o.moduleNamed(o.p[o.kids[i][0]].Str)
		}
		if m < 0 || len(o.kids[m]) < 3 {
			continue
		}
		if slices.ContainsFunc(o.declarers(m, name), func(d int) bool { return d >= o.kids[m][2] }) {
			return true
		}
	}
	return false
}

// isMisplaced reports whether a node is a declaration at a place where it is not permitted.
func (o *oracle) isMisplaced(i int) bool {
	if o.op(o.parent[max(i, 1)]) != api.OpBlock {
		return false
	}
	n := o.op(i)
	switch o.op(o.parent[o.parent[i]]) {
	case api.OpModule:
		return !slices.Contains([]int{api.OpFun, api.OpBind, api.OpSig, api.OpData, api.OpNametype, api.OpChannel, api.OpTimed}, n)
	}
	return n != api.OpFun && n != api.OpBind && n != api.OpSig
}

// hasTwins reports whether two members of a module have the same name.
func (o *oracle) hasTwins(module int) bool {
	for i := module; i < o.end[module]; i++ {
		if !o.declares(module, i) {
			continue
		}
		for _, j := range o.declarers(module, o.p[i].Str) {
			areFuns := o.op(i) == api.OpFun && o.op(j) == api.OpFun
			pattern := o.patternAround(i)
			if i != j && !areFuns && (pattern < 0 || pattern != o.patternAround(j)) {
				return true
			}
		}
	}
	return false
}

// errorAt returns the first error of a node.
func (o *oracle) errorAt(i int) api.Errno {
	n := o.p[i]
	isUnit := n.Op == api.OpModule || n.Op == api.OpInstance
	if o.isMisplaced(i) {
		return api.ErrInvalid
	}
	if isUnit && slices.ContainsFunc(o.p[:i], func(x api.Node) bool {
		return x.Str == n.Str && (x.Op == api.OpModule || x.Op == api.OpInstance)
	}) {
		return api.ErrDuplicate
	}
	switch {
	case n.Op == api.OpInstance:
		m := o.moduleNamed(o.p[o.kids[i][0]].Str)
		if m < 0 {
			return api.ErrName
		}
		if len(o.kids[o.kids[m][0]]) != len(o.kids[o.kids[i][1]]) {
			return api.ErrType
		}
	case n.Op == api.OpModule && o.hasTwins(i):
		return api.ErrDuplicate
	case n.Op == api.OpName && strings.Contains(n.Str, "::") && !o.exports(n.Str):
		return api.ErrName
	}
	return api.OK
}
