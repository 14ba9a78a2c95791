package scope_test

import (
	"slices"

	"cspcheck/api"
	"cspcheck/scope"
)

// oracle decides on each node of an untimed program by the sentences of the chapter, from the node upwards.
type oracle struct {
	p      []api.Node
	kids   [][]int
	parent []int
	end    []int
	kinds  []int // what nodes declare
}

func newOracle(p []api.Node) *oracle {
	o := &oracle{p: p, kids: make([][]int, len(p)), parent: make([]int, len(p)), end: make([]int, len(p)), kinds: make([]int, len(p))}
	o.enter(0, -1)
	for i := range p {
		o.kinds[i] = o.kind(i)
	}
	return o
}

// enter notes the places of the nodes of a subtree. It returns the index behind it.
func (o *oracle) enter(i, parent int) int {
	o.parent[i] = parent
	next := i + 1
	for range o.p[i].Kids {
		o.kids[i] = append(o.kids[i], next)
		next = o.enter(next, i)
	}
	o.end[i] = next
	return next
}

// up returns the node that is some steps above a node, or -1, and its operator, or 0.
func (o *oracle) up(i, steps int) (int, int) {
	for range steps {
		if i < 0 {
			return -1, 0
		}
		i = o.parent[i]
	}
	if i < 0 {
		return -1, 0
	}
	return i, o.p[i].Op
}

func (o *oracle) has(i, inside int) bool {
	return i <= inside && inside < o.end[i]
}

// patternHolder returns the Fun, Lambda, Bind, Gen, Input or Some that has a pattern in which a node is, or -1.
func (o *oracle) patternHolder(i int) int {
	for {
		up, op := o.up(i, 1)
		over, overOp := o.up(i, 2)
		switch {
		case up < 0:
			return -1
		case op == api.OpParams && (overOp == api.OpFun || overOp == api.OpLambda):
			return over
		case op == api.OpBind || op == api.OpGen || op == api.OpInput || op == api.OpSome:
			if o.kids[up][0] == i {
				return up
			}
			return -1
		case op == api.OpParams || op == api.OpBlock || op == api.OpProgram:
			return -1
		}
		i = up
	}
}

func (o *oracle) isChannel(i int) bool {
	up, op := o.up(i, 1)
	isExpr := op == api.OpChannel && o.p[up].Int == 1 && o.end[i] == o.end[up]
	return op == api.OpChannel && !isExpr
}

func (o *oracle) isConstant(name string) bool {
	for i, n := range o.p {
		if n.Str == name && (n.Op == api.OpCon || o.isChannel(i)) {
			return true
		}
	}
	return false
}

// isClause reports whether a Fun is a further clause.
func (o *oracle) isClause(i int) bool {
	before, ok := o.declarationBefore(i)
	return ok && o.p[before].Op == api.OpFun && o.p[before].Str == o.p[i].Str && o.p[i+1].Kids > 0
}

func (o *oracle) declarationBefore(i int) (int, bool) {
	l := o.kids[o.parent[i]]
	k := slices.Index(l, i)
	if k == 0 {
		return 0, false
	}
	return l[k-1], true
}

// kind returns the kind of the symbol that a node declares, or 0.
func (o *oracle) kind(i int) int {
	n := o.p[i]
	_, op := o.up(i, 1)
	switch {
	case n.Op == api.OpFun && o.isClause(i):
		return 0
	case n.Op == api.OpFun && op == api.OpProgram:
		return api.SymGlobal
	case n.Op == api.OpFun:
		return api.SymLocal
	case n.Op == api.OpCon:
		return api.SymCon
	case n.Op == api.OpData:
		return api.SymData
	case n.Op == api.OpNametype:
		return api.SymNametype
	case n.Op != api.OpName:
		return 0
	case o.isChannel(i):
		return api.SymChannel
	}
	holder := o.patternHolder(i)
	if holder < 0 || o.isConstant(n.Str) {
		return 0
	}
	_, op = o.up(holder, 1)
	switch {
	case o.p[holder].Op != api.OpBind:
		return api.SymVar
	case op == api.OpProgram:
		return api.SymGlobal
	}
	return api.SymLocal
}

func (o *oracle) arity(i int) int {
	switch o.kinds[i] {
	case api.SymGlobal, api.SymLocal:
		if o.p[i].Op == api.OpFun {
			return o.p[i+1].Kids
		}
	case api.SymCon:
		return o.p[i].Kids
	case api.SymChannel:
		up, _ := o.up(i, 1)
		if o.p[up].Int == 0 {
			return 0
		}
		return o.parts(o.kids[up][len(o.kids[up])-1])
	}
	return 0
}

func (o *oracle) parts(i int) int {
	if o.p[i].Op != api.OpDot {
		return 1
	}
	return o.parts(o.kids[i][0]) + 1
}

// isGlobal reports whether a node declares something for the whole program.
func (o *oracle) isGlobal(i int) bool {
	return o.kinds[i] != 0 && o.kinds[i] != api.SymLocal && o.kinds[i] != api.SymVar
}

// binder returns the node of the table of chapter 4 that binds what a node declares, or -1 for the program.
func (o *oracle) binder(declarer int) int {
	if o.isGlobal(declarer) {
		return -1
	}
	i := declarer
	if o.p[i].Op == api.OpName {
		i = o.patternHolder(i)
	} else {
		i, _ = o.up(i, 2) // the Let of a Fun
	}
	for {
		switch o.p[i].Op {
		case api.OpFun, api.OpLambda, api.OpLet, api.OpSeqComp, api.OpSetComp, api.OpEvComp, api.OpRepeat, api.OpRename, api.OpPrefix:
			return i
		}
		i = o.parent[i]
	}
}

// sees reports whether what a node declares is visible at node i.
func (o *oracle) sees(i, declarer int) bool {
	b := o.binder(declarer)
	if b < 0 {
		return true
	}
	if !o.has(b, i) {
		return false
	}
	switch o.p[b].Op {
	case api.OpLet:
		return true
	case api.OpFun, api.OpLambda:
		return o.has(o.kids[b][1], i)
	}
	later := i >= o.end[o.patternHolder(declarer)]
	switch o.p[b].Op {
	case api.OpSeqComp, api.OpSetComp, api.OpEvComp:
		return later || o.has(o.kids[b][0], i)
	case api.OpRename:
		for _, k := range o.kids[o.kids[b][1]] {
			if o.p[k].Op == api.OpPair && o.has(k, i) {
				return true
			}
		}
	}
	return later
}

// denoted returns the node that declares what a Name denotes. It returns false if this is a builtin, or nothing.
func (o *oracle) denoted(i int) (int, bool) {
	name := o.p[i].Str
	inPattern := o.patternHolder(i) >= 0
	best, bestBinder := -1, -2
	for j, kind := range o.kinds {
		if kind == 0 || o.p[j].Str != name {
			continue
		}
		if inPattern && kind != api.SymCon && kind != api.SymChannel {
			continue
		}
		if b := o.binder(j); o.sees(i, j) && b >= bestBinder { // a later one of the same binder is the inner one
			best, bestBinder = j, b
		}
	}
	return best, best >= 0
}

func builtin(name string) int {
	return slices.IndexFunc(scope.Builtins(), func(s api.Symbol) bool { return s.Name == name })
}

// blockOf returns the node whose earlier declarations matter for a declaring node: the program, a Block, or what has its pattern.
func (o *oracle) blockOf(i int) int {
	if o.isGlobal(i) {
		return 0
	}
	if o.kinds[i] == api.SymVar {
		return o.patternHolder(i)
	}
	for o.p[i].Op != api.OpBlock {
		i = o.parent[i]
	}
	return i
}

// errorAt returns the first error of a node.
func (o *oracle) errorAt(i int) api.Errno {
	n := o.p[i]
	if o.kinds[i] != 0 {
		isTaken := o.isGlobal(i) && builtin(n.Str) >= 0
		for j := range i {
			isTaken = isTaken || o.kinds[j] != 0 && o.p[j].Str == n.Str && o.blockOf(j) == o.blockOf(i)
		}
		if isTaken || n.Op == api.OpData && (n.Str == "Event" || n.Str == "Proc") {
			return api.ErrDuplicate
		}
		return api.OK
	}
	switch n.Op {
	case api.OpFun:
		first := i
		for o.isClause(first) {
			first, _ = o.declarationBefore(first)
		}
		if o.p[first+1].Kids != o.p[i+1].Kids {
			return api.ErrType
		}
	case api.OpName:
		if _, ok := o.denoted(i); !ok && builtin(n.Str) < 0 {
			return api.ErrName
		}
	case api.OpSig:
		for _, j := range o.kids[o.parent[i]] {
			if j < i && o.p[j].Op == api.OpSig && o.p[j].Str == n.Str {
				return api.ErrDuplicate
			}
		}
		if o.signed(i) < 0 {
			return api.ErrName
		}
	case api.OpTypeName:
		if o.dataNamed(n.Str) < 0 && !slices.Contains([]string{"Int", "Bool", "Event", "Proc"}, n.Str) {
			return api.ErrName
		}
	case api.OpClass:
		if !slices.Contains([]string{"Eq", "Ord", "Set"}, n.Str) {
			return api.ErrName
		}
	}
	return api.OK
}

// signed returns the node that declares what a Sig describes, or -1.
func (o *oracle) signed(sig int) int {
	for j, kind := range o.kinds {
		if (kind == api.SymGlobal || kind == api.SymLocal) && o.p[j].Str == o.p[sig].Str && o.blockOf(j) == o.parent[sig] {
			return j
		}
	}
	return -1
}

func (o *oracle) dataNamed(name string) int {
	return slices.IndexFunc(o.p, func(n api.Node) bool { return n.Op == api.OpData && n.Str == name })
}

// resolve returns the resolved program and the symbols of a program without errors.
func (o *oracle) resolve() ([]api.Node, []api.Symbol) {
	s := scope.Builtins()
	numbers := map[int]int64{-1: 0}
	for i, kind := range o.kinds {
		if kind != 0 {
			numbers[i] = int64(len(s))
			s = append(s, api.Symbol{Name: o.p[i].Str, Kind: kind, Node: i, Arity: o.arity(i)})
		}
	}
	q := slices.Clone(o.p)
	for i, n := range q {
		switch {
		case o.kinds[i] != 0:
			q[i].Int = numbers[i]
		case n.Op == api.OpFun:
			before, _ := o.declarationBefore(i)
			q[i].Int = q[before].Int
		case n.Op == api.OpSig:
			q[i].Int = numbers[o.signed(i)]
		case n.Op == api.OpTypeName:
			q[i].Int = numbers[o.dataNamed(n.Str)]
		case n.Op == api.OpName:
			if j, ok := o.denoted(i); ok {
				q[i].Int = numbers[j]
			} else {
				q[i].Int = int64(builtin(n.Str))
			}
		}
	}
	return q, s
}

// free returns the local symbols that the Names in a subtree of a resolved program denote and that are declared outside of it.
func (o *oracle) free(q []api.Node, s []api.Symbol, i int) []int {
	var l []int
	for k, x := range s {
		if x.Kind != api.SymLocal && x.Kind != api.SymVar || o.has(i, x.Node) {
			continue
		}
		if slices.ContainsFunc(q[i:o.end[i]], func(n api.Node) bool { return n.Op == api.OpName && n.Int == int64(k) }) {
			l = append(l, k)
		}
	}
	return l
}

// groups returns the binding groups of a block of a resolved program.
func (o *oracle) groups(q []api.Node, s []api.Symbol, block int) [][]int {
	var symbols []int
	for k, x := range s {
		if (x.Kind == api.SymGlobal || x.Kind == api.SymLocal) && o.blockOf(x.Node) == block {
			symbols = append(symbols, k)
		}
	}
	uses := o.usesOf(q, s, symbols)
	for _, via := range symbols {
		for _, from := range symbols {
			for _, to := range symbols {
				uses[from][to] = uses[from][to] || uses[from][via] && uses[via][to]
			}
		}
	}
	var groups [][]int
	done := map[int]bool{}
	for len(done) < len(symbols) {
		next := slices.IndexFunc(symbols, func(k int) bool {
			return !done[k] && !slices.ContainsFunc(symbols, func(used int) bool { return uses[k][used] && !uses[used][k] && !done[used] })
		})
		var group []int
		for _, k := range symbols {
			if first := symbols[next]; k == first || uses[k][first] && uses[first][k] {
				group = append(group, k)
				done[k] = true
			}
		}
		groups = append(groups, group)
	}
	return groups
}

// usesOf tells for each of the symbols of a block which ones its unit uses. Variables of one Bind use each other.
func (o *oracle) usesOf(q []api.Node, s []api.Symbol, symbols []int) map[int]map[int]bool {
	uses := map[int]map[int]bool{}
	for _, k := range symbols {
		uses[k] = map[int]bool{}
		for _, d := range o.kids[o.blockOf(s[k].Node)] {
			isPart := o.has(d, s[k].Node) || q[d].Op == api.OpFun && q[d].Int == int64(k)
			for _, n := range q[d:o.end[d]] {
				if isPart && n.Op == api.OpName {
					uses[k][int(n.Int)] = true
				}
			}
		}
	}
	return uses
}
