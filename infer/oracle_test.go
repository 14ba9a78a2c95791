package infer_test

import (
	"slices"
	"strings"

	"cspcheck/api"
	"cspcheck/infer"
	"cspcheck/scope"
	"cspcheck/types"
)

// This file has a second implementation, which follows the sentences of the chapter one by one: it replaces a variable in all types at once, reads the rows of the table as texts, and decides by the places of declarations which symbols are around a block.

// table returns the rows of the table that are about the children of a node alone: the type, equations, and classes. A digit is the type of that child, * that of each child.
func table() map[int]string {
	m := map[int]string{
		api.OpInt:  "Int",
		api.OpTrue: "Bool", api.OpFalse: "Bool",
		api.OpSeq: "<a> | a=*", api.OpSet: "{a} | a=* | a:Set",
		api.OpSeqFrom: "<Int> | *=Int", api.OpSeqTo: "<Int> | *=Int", api.OpSetTo: "{Int} | *=Int",
		api.OpCat: "<a> | 1=<a> 2=<a>", api.OpLen: "Int | 1=<a>",
		api.OpIf: "2 | 1=Bool 2=3", api.OpBoth: "1 | 1=2",
		api.OpStop: "Proc", api.OpSkip: "Proc", api.OpDiv0: "Proc",
		api.OpGuard: "Proc | 1=Bool 2=Proc",
		api.OpAlpha: "Proc | 1=Proc 2={Event} 3={Event} 4=Proc",
		api.OpHide:  "Proc | 1=Proc 2={Event}",
		api.OpPrior: "Proc | 1=Proc 2={(Event,Event)}", api.OpChase: "Proc | 1=Proc",
		api.OpRefine: "Proc | 1=Proc 2=Proc", api.OpCheck: "Proc | 1=Proc", api.OpTrace: "Proc | 1=Proc 2=<Event>",
	}
	for ops, row := range map[[6]int]string{
		{api.OpNeg, api.OpMul, api.OpDiv, api.OpMod, api.OpAdd, api.OpSub}: "Int | *=Int",
		{api.OpEq, api.OpNe}:                     "Bool | 1=2 | 1:Eq",
		{api.OpLt, api.OpLe, api.OpGt, api.OpGe}: "Bool | 1=2 | 1:Ord",
		{api.OpNot, api.OpAnd, api.OpOr}:         "Bool | *=Bool",
		{api.OpSequence, api.OpExtern, api.OpIntern, api.OpInterrupt, api.OpSlide, api.OpInter}: "Proc | 1=Proc 2=Proc",
		{api.OpThrow, api.OpSync, api.OpParallel}:                                               "Proc | 1=Proc 2={Event} 3=Proc",
	} {
		for _, op := range ops {
			m[op] = row
		}
	}
	return m
}

// problem is the error that ends an inference.
type problem struct {
	node int
	code api.Errno
}

// required is a class that a node requires of a type.
type required struct {
	node, typ, class int
}

// oracle infers types. A type has a number, under which it is found after all replacements.
type oracle struct {
	p          []api.Node
	s          []api.Symbol
	kids       [][]int
	parent     []int
	end        []int
	table      map[int]string
	types      []list
	fresh      int
	ofSymbol   map[int]int
	ofField    map[int]int
	quantified map[int][]int   // by symbol, variables
	classes    map[int][3]bool // by quantified variable
	processed  map[int]bool    // the functions of groups that are being processed
	collected  []required
	declaring  bool
	inPattern  bool
}

func newOracle(p []api.Node, s []api.Symbol) *oracle {
	o := &oracle{
		p: p, s: s, kids: make([][]int, len(p)), parent: make([]int, len(p)), end: make([]int, len(p)), table: table(),
		ofSymbol: map[int]int{}, ofField: map[int]int{}, quantified: map[int][]int{}, classes: map[int][3]bool{}, processed: map[int]bool{},
	}
	o.enter(0, -1)
	return o
}

func (o *oracle) enter(i, parent int) int {
	o.parent[i] = parent
	next := i + 1
	for range o.p[i].Kids {
		o.kids[i] = append(o.kids[i], next)
		next = o.enter(next, i)
	}
	o.end[i] = next
	return next
}

func (o *oracle) fail(i int, code api.Errno) {
	panic(problem{i, code})
}

// add gives a type a number.
func (o *oracle) add(l list) int {
	o.types = append(o.types, l)
	return len(o.types) - 1
}

func (o *oracle) variable() int {
	o.fresh++
	return o.add(list{{Kind: api.TypeVar, Num: o.fresh}})
}

// with adds a type with parts.
func (o *oracle) with(kind int, parts ...int) int {
	l := list{{Kind: kind, Kids: len(parts)}}
	for _, t := range parts {
		l = append(l, o.types[t]...)
	}
	return o.add(l)
}

// read adds a type that is written as in the table. The types of children and of a are given.
func (o *oracle) read(text string, of map[string]int) int {
	t, rest := o.readFirst(text, of)
	if rest != "" {
		panic("wrong table")
	}
	return t
}

func (o *oracle) readFirst(text string, of map[string]int) (int, string) {
	for name, kind := range map[string]int{"Int": api.TypeInt, "Bool": api.TypeBool, "Event": api.TypeEvent, "Proc": api.TypeProc} {
		if rest, ok := strings.CutPrefix(text, name); ok {
			return o.with(kind), rest
		}
	}
	switch text[0] {
	case '<':
		t, rest := o.readFirst(text[1:], of)
		return o.with(api.TypeSeq, t), rest[1:]
	case '{':
		t, rest := o.readFirst(text[1:], of)
		return o.with(api.TypeSet, t), rest[1:]
	case '(':
		a, rest := o.readFirst(text[1:], of)
		b, rest := o.readFirst(rest[1:], of)
		return o.with(api.TypeTuple, a, b), rest[1:]
	}
	return of[text[:1]], text[1:]
}

// equate solves an equation that node i requires.
func (o *oracle) equate(i, a, b int) {
	s, e := types.Unify(o.types[a], o.types[b])
	if e == api.ErrInvalid {
		e = api.ErrFull
	}
	if e != api.OK {
		o.fail(i, e)
	}
	for k := range o.types {
		o.types[k] = replaceAll(o.types[k], s)
	}
}

func replaceAll(l list, s []api.Binding) list {
	var out list
	for _, n := range l {
		k := slices.IndexFunc(s, func(b api.Binding) bool { return n.Kind == api.TypeVar && b.Var == n.Num })
		if k < 0 {
			out = append(out, n)
		} else {
			out = append(out, s[k].Type...)
		}
	}
	return out
}

func (o *oracle) need(i, t, class int) {
	o.collected = append(o.collected, required{i, t, class})
}

// row processes a node by its row of the table, after its children.
func (o *oracle) row(i int) int {
	text, ok := o.table[o.p[i].Op]
	if !ok {
		panic("no row")
	}
	columns := append(strings.Split(text, " | "), "", "")
	of := map[string]int{"a": o.variable()}
	var children []int
	for k, kid := range o.kids[i] {
		t := o.expression(kid)
		of[string(rune('1'+k))] = t
		children = append(children, t)
	}
	for _, equation := range strings.Fields(columns[1]) {
		left, right, _ := strings.Cut(equation, "=")
		switch {
		case left == "*":
			for _, t := range children {
				o.equate(i, t, o.read(right, of))
			}
		case right == "*":
			for _, t := range children {
				o.equate(i, o.read(left, of), t)
			}
		default:
			o.equate(i, o.read(left, of), o.read(right, of))
		}
	}
	if t, class, ok := strings.Cut(columns[2], ":"); ok {
		o.need(i, of[t], map[string]int{"Eq": api.ClassEq, "Ord": api.ClassOrd, "Set": api.ClassSet}[class])
	}
	return o.read(columns[0], of)
}

func (o *oracle) expression(i int) int {
	kids := o.kids[i]
	switch o.p[i].Op {
	case api.OpName:
		return o.name(i)
	case api.OpWild:
		if !o.inPattern {
			o.fail(i, api.ErrType)
		}
		return o.variable()
	case api.OpTuple:
		return o.with(api.TypeTuple, o.all(kids)...)
	case api.OpEvents:
		for _, t := range o.all(kids) {
			o.event(i, t)
		}
		return o.read("{Event}", nil)
	case api.OpMap:
		return o.mapping(i)
	case api.OpSeqComp:
		o.params(kids[1], api.TypeSeq)
		return o.with(api.TypeSeq, o.expression(kids[0]))
	case api.OpSetComp:
		o.params(kids[1], api.TypeSet)
		t := o.expression(kids[0])
		o.need(i, t, api.ClassSet)
		return o.with(api.TypeSet, t)
	case api.OpEvComp:
		o.params(kids[1], api.TypeSet)
		o.event(i, o.expression(kids[0]))
		return o.read("{Event}", nil)
	case api.OpApply:
		l := o.all(kids)
		a := o.variable()
		o.equate(i, l[0], o.with(api.TypeFun, append(slices.Clone(l[1:]), a)...))
		return a
	case api.OpDot:
		return o.dot(i)
	case api.OpLet:
		o.block(kids[0])
		return o.expression(kids[1])
	case api.OpLambda:
		var parts []int
		for _, pattern := range o.kids[kids[0]] {
			parts = append(parts, o.pattern(pattern))
		}
		return o.with(api.TypeFun, append(parts, o.expression(kids[1]))...)
	case api.OpPrefix:
		return o.prefix(i)
	case api.OpRename:
		t := o.expression(kids[0])
		o.params(kids[1], api.TypeSet)
		o.equate(i, t, o.read("Proc", nil))
		return t
	case api.OpLink:
		left := o.expression(kids[0])
		o.params(kids[1], api.TypeSet)
		right := o.expression(kids[2])
		o.equate(i, left, o.read("Proc", nil))
		o.equate(i, right, o.read("Proc", nil))
		return left
	case api.OpRepeat:
		return o.repeat(i)
	}
	return o.row(i)
}

func (o *oracle) all(nodes []int) []int {
	var l []int
	for _, i := range nodes {
		l = append(l, o.expression(i))
	}
	return l
}

func (o *oracle) pattern(i int) int {
	for k := i; k < o.end[i]; k++ {
		if n := o.p[k]; n.Op == api.OpName && o.s[n.Int].Node == k && o.s[n.Int].Kind == api.SymVar {
			o.ofSymbol[int(n.Int)] = o.variable()
		}
	}
	o.inPattern = true
	t := o.expression(i)
	o.inPattern = false
	return t
}

// name returns an instance of the type of a symbol.
func (o *oracle) name(i int) int {
	k := int(o.p[i].Int)
	switch o.s[k].Kind {
	case api.SymBuiltin:
		a, _ := infer.Builtin(k)
		first := o.fresh + 1
		var s []api.Binding
		for v := range a.Vars {
			s = append(s, api.Binding{Var: v, Type: o.types[o.variable()]})
		}
		for _, n := range a.Needs {
			o.need(i, o.add(list{{Kind: api.TypeVar, Num: first + n.Var}}), n.Classes)
		}
		return o.add(replaceAll(a.Type, s))
	case api.SymData:
		return o.add(list{{Kind: api.TypeSet, Kids: 1}, {Kind: api.TypeData, Num: k}})
	case api.SymGlobal:
		if o.declaring {
			o.fail(i, api.ErrState)
		}
	}
	var s []api.Binding
	for _, v := range o.quantified[k] {
		t := o.variable()
		s = append(s, api.Binding{Var: v, Type: o.types[t]})
		for class, isNeeded := range o.classes[v] {
			if isNeeded {
				o.need(i, t, 1<<class)
			}
		}
	}
	return o.add(replaceAll(o.types[o.ofSymbol[k]], s))
}

// event requires that a type is Event or an extension that ends in it.
func (o *oracle) event(i, t int) {
	for o.types[t][0].Kind == api.TypeExt {
		l := o.types[t]
		t = o.add(l[endOf(l, 1):])
	}
	if kind := o.types[t][0].Kind; kind != api.TypeVar && kind != api.TypeEvent {
		o.fail(i, api.ErrType)
	}
	o.equate(i, t, o.read("Event", nil))
}

// endOf returns the index behind the part of a type that begins at an index.
func endOf(l list, i int) int {
	end := i + 1
	for range l[i].Kids {
		end = endOf(l, end)
	}
	return end
}

func (o *oracle) mapping(i int) int {
	a, b := o.variable(), o.variable()
	var parts [][]int
	for _, pair := range o.kids[i] {
		parts = append(parts, o.all(o.kids[pair]))
	}
	for _, l := range parts {
		o.equate(i, a, l[0])
		o.equate(i, b, l[1])
	}
	o.need(i, a, api.ClassSet)
	return o.with(api.TypeMap, a, b)
}

// params processes Params. The sources of generators are sets or sequences.
func (o *oracle) params(i, kind int) {
	for _, isPair := range []bool{false, true} {
		for _, k := range o.kids[i] {
			if (o.p[k].Op == api.OpPair) != isPair {
				continue
			}
			switch o.p[k].Op {
			case api.OpPair:
				l := o.all(o.kids[k])
				o.equate(k, l[0], o.read("Event", nil))
				o.equate(k, l[1], o.read("Event", nil))
			case api.OpGen:
				t := o.pattern(o.kids[k][0])
				source := o.expression(o.kids[k][1])
				o.equate(k, source, o.with(kind, t))
				if kind == api.TypeSet {
					o.need(k, t, api.ClassSet)
				}
			default:
				o.equate(k, o.expression(k), o.read("Bool", nil))
			}
		}
	}
}

func (o *oracle) dot(i int) int {
	if o.declaring {
		o.fail(i, api.ErrType)
	}
	var dots []int // of the spine, the innermost one last
	head := i
	for o.p[head].Op == api.OpDot {
		dots = append(dots, head)
		head = o.kids[head][0]
	}
	if n := o.p[head]; n.Op != api.OpName || o.s[n.Int].Kind != api.SymCon && o.s[n.Int].Kind != api.SymChannel {
		return o.with(api.TypeDot, o.all(o.kids[i])...)
	}
	t := o.name(head)
	for _, d := range slices.Backward(dots) {
		part := o.expression(o.kids[d][1])
		l := o.types[t]
		if l[0].Kind != api.TypeExt {
			o.fail(d, api.ErrType)
		}
		middle := endOf(l, 1)
		field, rest := o.add(l[1:middle]), o.add(l[middle:])
		o.equate(d, field, part)
		t = rest
	}
	return t
}

func (o *oracle) prefix(i int) int {
	kids := o.kids[i]
	last := len(kids) - 1
	e := o.expression(kids[0])
	for _, f := range kids[1:last] {
		var x int
		if o.p[f].Op == api.OpOutput {
			x = o.expression(o.kids[f][0])
		} else {
			x = o.pattern(o.kids[f][0])
		}
		a := o.variable()
		o.equate(f, e, o.with(api.TypeExt, x, a))
		if len(o.kids[f]) == 2 {
			set := o.expression(o.kids[f][1])
			o.equate(f, set, o.with(api.TypeSet, x))
		}
		e = a
	}
	o.equate(i, e, o.read("Event", nil))
	o.equate(i, o.expression(kids[last]), o.read("Proc", nil))
	return o.read("Proc", nil)
}

func (o *oracle) repeat(i int) int {
	kids := o.kids[i]
	gens := slices.IndexFunc(kids, func(k int) bool { return o.p[k].Op == api.OpParams })
	kind := api.TypeSet
	if o.p[i].Int == api.OpSequence {
		kind = api.TypeSeq
	}
	for k, kid := range kids {
		switch {
		case k == gens:
			o.params(kid, kind)
		case k == len(kids)-1:
			o.equate(i, o.expression(kid), o.read("Proc", nil))
		default:
			o.equate(i, o.expression(kid), o.read("{Event}", nil))
		}
	}
	return o.read("Proc", nil)
}

// declarations processes the Datas, Nametypes and Channels.
func (o *oracle) declarations() {
	for k, x := range o.s {
		switch x.Kind {
		case api.SymNametype:
			o.ofSymbol[k] = o.variable()
		case api.SymCon:
			data := x.Node
			for o.p[data].Op != api.OpData {
				data = o.parent[data]
			}
			o.ofSymbol[k] = o.full(o.kids[x.Node], list{{Kind: api.TypeData, Num: int(o.p[data].Int)}})
		case api.SymChannel:
			o.ofSymbol[k] = o.full(o.partsOf(o.parent[x.Node]), list{{Kind: api.TypeEvent}})
		}
	}
	o.declaring = true
	for i, n := range o.p {
		switch n.Op {
		case api.OpData:
			for _, con := range o.kids[i] {
				o.sets(o.kids[con])
			}
		case api.OpNametype:
			t, a := o.ofSymbol[int(n.Int)], o.variable()
			o.equate(i, t, o.expression(i+1))
			o.equate(i, t, o.with(api.TypeSet, a))
			o.need(i, a, api.ClassSet)
		case api.OpChannel:
			o.sets(o.partsOf(i))
		default:
			continue
		}
		o.reduce(0)
		o.collected = nil
	}
	o.declaring = false
}

// partsOf returns the parts of the Expr of a Channel.
func (o *oracle) partsOf(channel int) []int {
	if o.p[channel].Int == 0 {
		return nil
	}
	var l []int
	i := o.kids[channel][len(o.kids[channel])-1]
	for o.p[i].Op == api.OpDot {
		l = append([]int{o.kids[i][1]}, l...)
		i = o.kids[i][0]
	}
	return append([]int{i}, l...)
}

func (o *oracle) full(fields []int, last list) int {
	t := o.add(last)
	for _, f := range slices.Backward(fields) {
		if _, ok := o.ofField[f]; !ok {
			o.ofField[f] = o.variable()
		}
		t = o.with(api.TypeExt, o.ofField[f], t)
	}
	return t
}

func (o *oracle) sets(fields []int) {
	for _, f := range fields {
		t := o.expression(f)
		o.equate(f, o.with(api.TypeSet, o.ofField[f]), t)
		o.need(f, o.ofField[f], api.ClassSet)
	}
}

// reduce replaces the classes from a place on by those of variables.
func (o *oracle) reduce(from int) {
	var l []required
	for _, r := range o.collected[from:] {
		needs, ok := types.Needs(o.types[r.typ], r.class)
		if !ok {
			o.fail(r.node, api.ErrClass)
		}
		for _, n := range needs {
			l = append(l, required{r.node, o.add(list{{Kind: api.TypeVar, Num: n.Var}}), n.Classes})
		}
	}
	o.collected = append(o.collected[:from:from], l...)
}

func (o *oracle) isFunction(k int) bool {
	return o.p[o.s[k].Node].Op == api.OpFun
}

func (o *oracle) block(i int) {
	for _, g := range scope.Groups(o.p, o.s, i) {
		o.group(i, g)
	}
	for _, d := range o.kids[i] {
		if o.p[d].Op == api.OpBind && !slices.ContainsFunc(o.p[d+1:o.end[d+1]], func(n api.Node) bool {
			return n.Op == api.OpName && o.s[n.Int].Node > d && o.s[n.Int].Node < o.end[d+1]
		}) {
			from := len(o.collected)
			o.bind(d)
			o.reduce(from)
			if i == 0 {
				o.collected = nil
			}
		}
	}
}

func (o *oracle) bind(d int) {
	t := o.expression(o.kids[d][1])
	o.equate(d, o.pattern(o.kids[d][0]), t)
}

func (o *oracle) group(block int, g []int) {
	from := len(o.collected)
	for _, k := range g {
		o.ofSymbol[k] = o.variable()
		o.processed[k] = true
	}
	var done []int // the Binds that have been processed
	for _, k := range g {
		for _, d := range o.kids[block] {
			switch {
			case o.p[d].Op == api.OpFun && int(o.p[d].Int) == k:
				o.clause(d, k)
			case o.p[d].Op == api.OpBind && d < o.s[k].Node && o.s[k].Node < o.end[d] && !slices.Contains(done, d):
				o.bind(d)
				done = append(done, d)
			}
		}
	}
	for _, k := range g {
		delete(o.processed, k)
	}
	o.reduce(from)
	o.signatures(block, g, from)
	o.quantify(block, g, from)
	if block == 0 {
		o.collected = nil
	}
}

func (o *oracle) clause(d, k int) {
	var parts []int
	for _, pattern := range o.kids[o.kids[d][0]] {
		parts = append(parts, o.pattern(pattern))
	}
	t := o.expression(o.kids[d][1])
	if len(parts) > 0 {
		t = o.with(api.TypeFun, append(parts, t)...)
	}
	o.equate(d, o.ofSymbol[k], t)
}

// around reports whether a symbol is one of the nodes around a block that is not quantified. Those whose types are not known yet are none.
func (o *oracle) around(block, k int) bool {
	if _, ok := o.ofSymbol[k]; !ok {
		return false
	}
	i := o.s[k].Node
	switch o.s[k].Kind {
	case api.SymNametype, api.SymCon, api.SymChannel:
		return true
	case api.SymGlobal, api.SymLocal:
		if o.isFunction(k) {
			return o.processed[k]
		}
		for o.p[i].Op != api.OpBlock && o.p[i].Op != api.OpProgram {
			i = o.parent[i]
		}
		if i > 0 {
			i = o.parent[i] // a Let
		}
	case api.SymVar:
		for !isBinder(o.p[i].Op) {
			i = o.parent[i]
		}
	default:
		return false
	}
	return i <= block && block < o.end[i]
}

func isBinder(op int) bool {
	switch op {
	case api.OpFun, api.OpLambda, api.OpSeqComp, api.OpSetComp, api.OpEvComp, api.OpRepeat, api.OpRename, api.OpPrefix:
		return true
	}
	return false
}

// fixed returns the variables of the symbols around a block, but for one.
func (o *oracle) fixed(block, but int) []int {
	var l []int
	for k := range o.s {
		if k != but && o.around(block, k) {
			l = append(l, types.Vars(o.types[o.ofSymbol[k]])...)
		}
	}
	return l
}

// rigid returns a type with rigid types in the places of some variables.
func rigid(l list, variables []int) list {
	l = slices.Clone(l)
	for i, n := range l {
		if n.Kind == api.TypeVar && slices.Contains(variables, n.Num) {
			l[i] = api.TypeNode{Kind: api.TypeData, Num: 1<<20 + n.Num}
		}
	}
	return l
}

// flexible returns a type with variables in the places of rigid types.
func flexible(l list) list {
	l = slices.Clone(l)
	for i, n := range l {
		if n.Kind == api.TypeData && n.Num >= 1<<20 {
			l[i] = api.TypeNode{Kind: api.TypeVar, Num: n.Num - 1<<20}
		}
	}
	return l
}

func (o *oracle) signatures(block int, g []int, from int) {
	for _, i := range o.kids[block] {
		k := int(o.p[i].Int)
		if o.p[i].Op != api.OpSig || !slices.Contains(g, k) {
			continue
		}
		declared, classes := o.signature(i)
		if !types.Valid(declared) {
			o.fail(i, api.ErrFull)
		}
		inferred := rigid(o.types[o.ofSymbol[k]], o.fixed(block, k))
		s, ok := types.Match(inferred, rigid(declared, types.Vars(declared)))
		if !ok {
			o.fail(i, api.ErrType)
		}
		for _, b := range s {
			for _, r := range o.collected[from:] {
				if o.types[r.typ][0].Num != b.Var {
					continue
				}
				needs, ok := types.Needs(flexible(b.Type), r.class)
				for _, n := range needs {
					ok = ok && hasClasses(classes[n.Var], n.Classes)
				}
				if !ok {
					o.fail(i, api.ErrClass)
				}
			}
		}
		o.ofSymbol[k] = o.add(declared)
		for v, c := range classes {
			o.classes[v] = c
		}
	}
}

func hasClasses(has [3]bool, classes int) bool {
	for k := range has {
		if classes&(1<<k) != 0 && !has[k] {
			return false
		}
	}
	return true
}

// signature returns the type of a Sig with fresh variables, and the classes that these are declared to have.
func (o *oracle) signature(i int) (list, map[int][3]bool) {
	names := map[string]int{}
	classes := map[int][3]bool{}
	kids := o.kids[i]
	last := kids[len(kids)-1]
	var l list
	for _, n := range o.p[last:o.end[last]] {
		t := api.TypeNode{Kids: n.Kids}
		switch n.Op {
		case api.OpTypeName:
			t.Kind = map[string]int{"Int": api.TypeInt, "Bool": api.TypeBool, "Event": api.TypeEvent, "Proc": api.TypeProc}[n.Str]
			if t.Kind == 0 {
				t.Kind, t.Num = api.TypeData, int(n.Int)
			}
		case api.OpTypeVar:
			if _, ok := names[n.Str]; !ok {
				o.variable()
				names[n.Str] = o.fresh
			}
			t.Kind, t.Num = api.TypeVar, names[n.Str]
		default:
			t.Kind = map[int]int{
				api.OpTypeSeq: api.TypeSeq, api.OpTypeSet: api.TypeSet, api.OpTypeMap: api.TypeMap, api.OpTypeTuple: api.TypeTuple,
				api.OpTypeFun: api.TypeFun, api.OpTypeDot: api.TypeDot, api.OpTypeExt: api.TypeExt,
			}[n.Op]
		}
		l = append(l, t)
	}
	for _, class := range kids[:len(kids)-1] {
		if v, ok := names[o.p[o.kids[class][0]].Str]; ok {
			c := classes[v]
			c[slices.Index([]string{"Eq", "Ord", "Set"}, o.p[class].Str)] = true
			classes[v] = c
		}
	}
	return l, classes
}

func (o *oracle) quantify(block int, g []int, from int) {
	fixed := o.fixed(block, -1)
	var quantified []int
	for _, k := range g {
		if !o.isFunction(k) {
			continue
		}
		o.quantified[k] = slices.DeleteFunc(types.Vars(o.types[o.ofSymbol[k]]), func(v int) bool { return slices.Contains(fixed, v) })
		quantified = append(quantified, o.quantified[k]...)
	}
	rest := o.collected[:from:from]
	for _, r := range o.collected[from:] {
		v := o.types[r.typ][0].Num
		if !slices.Contains(quantified, v) {
			rest = append(rest, r)
			continue
		}
		c := o.classes[v]
		for k := range c {
			c[k] = c[k] || r.class&(1<<k) != 0
		}
		o.classes[v] = c
	}
	o.collected = rest
}

func (o *oracle) assertions() {
	for _, d := range o.kids[0] {
		switch o.p[d].Op {
		case api.OpRefine, api.OpCheck, api.OpTrace:
			o.row(d)
			o.reduce(0)
			o.collected = nil
		}
	}
}

// scheme returns the scheme of a symbol in the end.
func (o *oracle) scheme(k int) api.Scheme {
	switch o.s[k].Kind {
	case api.SymBuiltin:
		a, _ := infer.Builtin(k)
		return a
	case api.SymData:
		return api.Scheme{Type: list{{Kind: api.TypeSet, Kids: 1}, {Kind: api.TypeData, Num: k}}}
	}
	l := slices.Clone(o.types[o.ofSymbol[k]])
	order := slices.Clone(o.quantified[k])
	for _, v := range types.Vars(l) {
		if !slices.Contains(order, v) {
			order = append(order, v)
		}
	}
	a := api.Scheme{Vars: len(o.quantified[k])}
	for i, n := range l {
		if n.Kind == api.TypeVar {
			l[i].Num = slices.Index(order, n.Num)
		}
	}
	a.Type = l
	for i, v := range o.quantified[k] {
		classes := 0
		for c, isNeeded := range o.classes[v] {
			if isNeeded {
				classes += 1 << c
			}
		}
		if classes != 0 {
			a.Needs = append(a.Needs, api.Need{Var: i, Classes: classes})
		}
	}
	return a
}

// infer returns the schemes of a resolved program, or its first error.
func (o *oracle) infer() (l []api.Scheme, pos api.Pos, e api.Errno) {
	defer func() {
		if r := recover(); r != nil {
			x, ok := r.(problem)
			if !ok {
				panic(r)
			}
			l, pos, e = nil, o.p[x.node].Pos, x.code
		}
	}()
	o.declarations()
	o.block(0)
	o.assertions()
	for k := range o.s {
		l = append(l, o.scheme(k))
	}
	return l, api.Pos{}, api.OK
}
