package core_test

import (
	"slices"

	"cspcheck/api"
)

// The second implementation of the lowering works on trees with pointers. It goes once through each body, in the order in which functions are lifted from it, and makes code and finds functions at the same time.

// tree is a node of a program with what is around it.
type tree struct {
	api.Node
	at, end int // its index, and that behind its subtree
	kids    []*tree
}

func grow(p []api.Node, at int) *tree {
	x := &tree{Node: p[at], at: at, end: at + 1}
	for range p[at].Kids {
		kid := grow(p, x.end)
		x.kids = append(x.kids, kid)
		x.end = kid.end
	}
	return x
}

// walk calls f for a tree and all trees in it.
func (x *tree) walk(f func(*tree)) {
	f(x)
	for _, kid := range x.kids {
		kid.walk(f)
	}
}

// branch is a node of code.
type branch struct {
	op, number int
	kids       []branch
}

func leaf(op, number int) branch          { return branch{op: op, number: number} }
func node1(op int, kids ...branch) branch { return branch{op: op, kids: kids} }
func prim(p int, kids ...branch) branch   { return branch{api.CodePrim, p, kids} }
func (b branch) nodes() (l code) {
	return slices.Concat(code{{Op: b.op, Int: int64(b.number), Kids: len(b.kids)}}, nodesOf(b.kids))
}
func nodesOf(l []branch) (nodes code) {
	for _, b := range l {
		nodes = append(nodes, b.nodes()...)
	}
	return nodes
}

// oracle is a program that is being lowered.
type oracle struct {
	s        []api.Symbol
	types    []api.Scheme
	root     *tree
	clauses  map[int][]*tree        // by symbol
	captures map[*tree]map[int]bool // by Lambda, continuation, and first clause of a lifted function
	parts    map[*tree][]*tree      // of these: the clauses, or the tree itself
	number   map[int]int            // of constructors and channels, and of datatypes
	function map[int]int            // by symbol
	funcs    []api.Func             // without bodies
	bodies   []func() branch
	held     [][]int // the captured symbols of each function
	core     api.Core
}

// env is the list of the symbols that the slots belong to.
type env []int

func (e env) slot(symbol int) branch {
	for k := len(e) - 1; k >= 0; k-- {
		if e[k] == symbol {
			return leaf(api.CodeSlot, k)
		}
	}
	panic("a variable without a slot")
}

func (e env) with(symbols ...int) env { return append(slices.Clone(e), symbols...) }

func newOracle(p []api.Node, s []api.Symbol, types []api.Scheme) *oracle {
	o := &oracle{s: s, types: types, root: grow(p, 0), clauses: map[int][]*tree{}, captures: map[*tree]map[int]bool{}, parts: map[*tree][]*tree{}, number: map[int]int{}, function: map[int]int{}}
	o.root.walk(func(x *tree) {
		if x.Op == api.OpFun {
			o.clauses[int(x.Int)] = append(o.clauses[int(x.Int)], x)
		}
	})
	constants, datatypes := 0, 0
	for k, x := range s {
		switch x.Kind {
		case api.SymCon, api.SymChannel:
			o.number[k] = constants
			constants++
		case api.SymData:
			o.number[k] = datatypes
			datatypes++
		}
	}
	o.findCaptures()
	return o
}

// isProc tells whether a symbol has the type of a process, or of a function with its parameters whose result is one.
func (o *oracle) isProc(symbol int) bool {
	t := o.types[symbol].Type
	n := o.s[symbol].Arity
	if n == 0 {
		return len(t) == 1 && t[0].Kind == api.TypeProc
	}
	return t[len(t)-1].Kind == api.TypeProc && lastParameterEnds(t, n) == len(t)-1
}

// lastParameterEnds returns the index behind the last parameter of a function type.
func lastParameterEnds(t []api.TypeNode, parameters int) int {
	end := 1
	var skip func()
	skip = func() {
		kids := t[end].Kids
		end++
		for range kids {
			skip()
		}
	}
	for range parameters {
		skip()
	}
	return end
}

// lifted tells whether a symbol is a function of a Let that becomes one of the core.
func (o *oracle) lifted(symbol int) bool {
	isFun := o.s[symbol].Kind == api.SymLocal && o.clauses[symbol] != nil
	return isFun && (o.s[symbol].Arity > 0 || o.isProc(symbol))
}

// findCaptures applies the definition of captured symbols until nothing changes.
func (o *oracle) findCaptures() {
	o.root.walk(func(x *tree) {
		switch {
		case x.Op == api.OpLambda:
			o.parts[x] = []*tree{x}
		case x.Op == api.OpPrefix:
			last := x.kids[len(x.kids)-1]
			o.parts[last] = []*tree{last}
		case x.Op == api.OpFun && o.lifted(int(x.Int)) && o.clauses[int(x.Int)][0] == x:
			o.parts[x] = o.clauses[int(x.Int)]
		}
	})
	for x := range o.parts {
		o.captures[x] = map[int]bool{}
	}
	for changed := true; changed; {
		changed = false
		for x, parts := range o.parts {
			before := len(o.captures[x])
			for _, part := range parts {
				part.walk(func(n *tree) { o.capture(x, n) })
			}
			changed = changed || len(o.captures[x]) > before
		}
	}
}

// capture adds to the captured symbols of x what a node in it makes it capture.
func (o *oracle) capture(x, n *tree) {
	if n.Op != api.OpName {
		return
	}
	k := int(n.Int)
	candidates := map[int]bool{}
	if o.lifted(k) {
		candidates = o.captures[o.clauses[k][0]]
	} else if kind := o.s[k].Kind; kind == api.SymVar || kind == api.SymLocal {
		candidates[k] = true
	}
	for c := range candidates {
		isInside := func(part *tree) bool { return o.s[c].Node >= part.at && o.s[c].Node < part.end }
		if !slices.ContainsFunc(o.parts[x], isInside) {
			o.captures[x][c] = true
		}
	}
}

func (o *oracle) captured(x *tree) []int {
	var l []int
	for k := range o.captures[x] {
		l = append(l, k)
	}
	slices.Sort(l)
	return l
}

// add adds a function with the captured symbols of a tree, if there is one.
func (o *oracle) add(head api.Func, x *tree, body func(env) branch) int {
	held := o.captured(x)
	head.Arity += len(held)
	o.funcs = append(o.funcs, head)
	o.held = append(o.held, held)
	o.bodies = append(o.bodies, func() branch { return body(held) })
	return len(o.funcs) - 1
}

// lower returns the core, whatever its size is.
func (o *oracle) lower() api.Core {
	for _, d := range o.root.kids {
		o.declaration(d)
	}
	for k := 0; k < len(o.funcs); k++ {
		f := o.funcs[k]
		f.Body = o.bodies[k]().nodes()
		o.core.Funcs = append(o.core.Funcs, f)
	}
	return o.core
}

func (o *oracle) declaration(d *tree) {
	value := func(x *tree, isProc bool, pos api.Pos) int {
		return o.add(api.Func{Proc: isProc, Pos: pos}, nil, func(e env) branch { return o.c(x, e) })
	}
	fields := func(l []*tree) (numbers []int) {
		for _, f := range l {
			numbers = append(numbers, value(f, false, f.Pos))
		}
		return numbers
	}
	name := func(x *tree, data int, fields []int) {
		o.core.Names = append(o.core.Names, api.Info{Name: x.Str, Data: data, Fields: slices.Clone(fields)})
	}
	switch d.Op {
	case api.OpFun:
		o.fun(d)
	case api.OpBind:
		whole := value(d.kids[1], false, d.Pos)
		for k, v := range o.variables(d.kids[0]) {
			head := api.Func{Name: v.Str, Proc: o.isProc(int(v.Int)), Pos: v.Pos}
			o.function[int(v.Int)] = o.add(head, nil, func(env) branch {
				return node1(api.CodeSelect, leaf(api.CodeCall, whole), o.p(d.kids[0]), leaf(api.CodeSlot, k))
			})
		}
	case api.OpNametype:
		o.function[int(d.Int)] = value(d.kids[0], false, d.Pos)
		o.funcs[len(o.funcs)-1].Name = d.Str
	case api.OpData:
		for _, con := range d.kids {
			name(con, o.number[int(d.Int)], fields(con.kids))
		}
	case api.OpChannel:
		names, domain := d.kids, []*tree(nil)
		if d.Int == 1 {
			names = d.kids[:len(d.kids)-1]
			x := d.kids[len(d.kids)-1]
			for ; x.Op == api.OpDot; x = x.kids[0] {
				domain = append([]*tree{x.kids[1]}, domain...)
			}
			domain = append([]*tree{x}, domain...)
		}
		numbers := fields(domain)
		for _, n := range names {
			name(n, -1, numbers)
		}
	case api.OpRefine, api.OpTrace, api.OpCheck:
		a := api.Assert{Op: d.Op, Int: int(d.Int), Pos: d.Pos, Left: value(d.kids[0], true, d.Pos), Right: -1}
		if len(d.kids) > 1 {
			a.Right = value(d.kids[1], d.Op == api.OpRefine, d.Pos)
		}
		o.core.Asserts = append(o.core.Asserts, a)
	}
}

// variables returns the Names of a pattern that are variables.
func (o *oracle) variables(p *tree) []*tree {
	var l []*tree
	p.walk(func(x *tree) {
		if x.Op == api.OpName && o.s[x.Int].Node == x.at {
			l = append(l, x)
		}
	})
	return l
}

// fun adds the function of a Fun, if this is a first clause.
func (o *oracle) fun(d *tree) {
	k := int(d.Int)
	if o.clauses[k][0] != d {
		return
	}
	head := api.Func{Name: d.Str, Arity: len(d.kids[0].kids), Proc: o.isProc(k), Pos: d.Pos}
	o.function[k] = o.add(head, d, func(e env) branch { return o.clausesOf(o.clauses[k], e) })
}

// clausesOf returns the body of a function with clauses.
func (o *oracle) clausesOf(l []*tree, e env) branch {
	parameters := len(l[0].kids[0].kids)
	if parameters == 0 {
		return o.c(l[0].kids[1], e)
	}
	whole := leaf(api.CodeClause, 0)
	for _, clause := range l {
		inside := e.with(slices.Repeat([]int{-1}, parameters)...)
		var kids []branch
		for _, p := range clause.kids[0].kids {
			kids = append(kids, o.p(p))
			inside = inside.with(o.symbols(p)...)
		}
		whole.kids = append(whole.kids, node1(api.CodeTuple, append(kids, o.c(clause.kids[1], inside))...))
	}
	return whole
}

func (o *oracle) symbols(p *tree) []int {
	var l []int
	for _, v := range o.variables(p) {
		l = append(l, int(v.Int))
	}
	return l
}

// p returns the code of a pattern.
func (o *oracle) p(x *tree) branch {
	all := func(l []*tree) (kids []branch) {
		for _, k := range l {
			kids = append(kids, o.p(k))
		}
		return kids
	}
	switch x.Op {
	case api.OpName:
		if o.s[x.Int].Node == x.at {
			return leaf(api.PatVar, 0)
		}
		return leaf(api.PatDot, o.number[int(x.Int)])
	case api.OpWild:
		return leaf(api.PatWild, 0)
	case api.OpInt:
		return leaf(api.PatInt, int(x.Int))
	case api.OpNeg:
		return leaf(api.PatInt, -int(x.kids[0].Int))
	case api.OpTrue:
		return leaf(api.PatBool, 1)
	case api.OpFalse:
		return leaf(api.PatBool, 0)
	case api.OpDot:
		left := o.p(x.kids[0])
		if left.op == api.PatDot {
			left.kids = append(left.kids, o.p(x.kids[1]))
			return left
		}
		return node1(api.PatPair, left, o.p(x.kids[1]))
	case api.OpCat:
		return o.cat(x)
	}
	return node1(map[int]int{api.OpTuple: api.PatTuple, api.OpSeq: api.PatSeq, api.OpSet: api.PatSet, api.OpBoth: api.PatBoth}[x.Op], all(x.kids)...)
}

// cat joins the patterns of the operands of a Cat.
func (o *oracle) cat(x *tree) branch {
	whole := leaf(api.PatSeq, 0)
	for _, k := range x.kids {
		part := o.p(k)
		switch part.op {
		case api.PatCat:
			whole.op, whole.number = api.PatCat, len(whole.kids)+part.number
		case api.PatSeq:
		default:
			whole.op, whole.number = api.PatCat, len(whole.kids)
			part = node1(api.PatSeq, part)
		}
		whole.kids = append(whole.kids, part.kids...)
	}
	return whole
}
