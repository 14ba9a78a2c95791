package core_test

import (
	"math/rand"
	"slices"
	"strconv"

	"cspcheck/api"
)

type list = []api.Node

// what is the type of an expression that maker makes.
type what int

const (
	integer  what = iota
	boolean       // Bool
	process       // Proc
	sequence      // <Int>
	set           // {Int}
	pair          // (Int, <Int>)
	dotted        // Int.Bool
	data          // the datatype T
	event         // Event
	events        // {Event}
	mapping       // (| Int => Int |)
	toInt         // (Int) -> Int
	toProc        // (Int) -> Proc
	fold          // (<Int>) -> Int
	mix           // ({Int}, {Int}) -> {Int}
	kinds
)

// parametersOf returns the types of the parameters and of the result of a function type, or false for another type.
func parametersOf(t what) ([]what, what, bool) {
	switch t {
	case toInt:
		return []what{integer}, integer, true
	case toProc:
		return []what{integer}, process, true
	case fold:
		return []what{sequence}, integer, true
	case mix:
		return []what{set, set}, set, true
	}
	return nil, t, false
}

// entry is a name that is visible: a value, or a function with parameters.
type entry struct {
	name       string
	parameters []what
	result     what
}

// maker makes random programs without errors of types.
type maker struct {
	*rand.Rand
	env    []entry
	names  int
	budget int
	nest   int
}

func newMaker(seed int) *maker {
	r := &maker{Rand: rand.New(rand.NewSource(int64(seed)))}
	for name, t := range map[string]what{"union": mix, "inter": mix, "diff": mix, "head": fold, "length": fold} {
		parameters, result, _ := parametersOf(t)
		r.env = append(r.env, entry{name, parameters, result})
	}
	slices.SortFunc(r.env, func(a, b entry) int { return int(a.name[0]) - int(b.name[0]) })
	return r
}

// n returns a node with children.
func n(op int, kids ...list) list {
	return slices.Concat(append([]list{{{Op: op, Kids: len(kids)}}}, kids...)...)
}

// with returns a node with another Str and Int.
func with(str string, number int, l list) list {
	l[0].Str, l[0].Int = str, int64(number)
	return l
}

func name(str string) list          { return with(str, 0, n(api.OpName)) }
func number(v int) list             { return with("", v, n(api.OpInt)) }
func params(l ...list) list         { return n(api.OpParams, l...) }
func apply(l ...list) list          { return n(api.OpApply, l...) }
func call(f string, l ...list) list { return apply(append([]list{name(f)}, l...)...) }

// one calls one of some functions.
func (r *maker) one(l ...func() list) list { return l[r.Intn(len(l))]() }

func (r *maker) op(l ...int) int { return l[r.Intn(len(l))] }

func (r *maker) fresh(prefix string) string {
	r.names++
	return prefix + strconv.Itoa(r.names)
}

// inside returns what f makes, whose names are not visible behind it.
func (r *maker) inside(f func() list) list {
	outside := len(r.env)
	l := f()
	r.env = r.env[:outside]
	return l
}

// e returns an expression.
func (r *maker) e(t what) list {
	r.budget--
	if r.budget < 0 || r.nest > 12 {
		return r.short(t)
	}
	r.nest++
	defer func() { r.nest-- }()
	parameters, result, isFunction := parametersOf(t)
	switch k := r.Intn(20); {
	case k < 5:
		return r.short(t)
	case k < 8:
		return r.call(t)
	case k < 10:
		return r.inside(func() list { return r.let(t) })
	case k == 10:
		return n(api.OpIf, r.e(boolean), r.e(t), r.e(t))
	case k == 11:
		return r.inside(func() list { u := what(r.Intn(int(kinds))); return apply(r.lambda([]what{u}, t), r.e(u)) })
	case k == 12 && r.Intn(3) == 0:
		return n(api.OpBoth, r.e(t), r.e(t))
	case k == 13:
		return call("head", n(api.OpSeq, r.e(t), r.e(t)))
	case isFunction:
		return r.lambda(parameters, result)
	}
	return r.inside(func() list { return r.special(t) })
}

// short returns a name, or another short expression.
func (r *maker) short(t what) list {
	parameters, result, _ := parametersOf(t)
	var l []string
	for _, x := range r.env {
		if x.result == t && len(x.parameters) == 0 || len(x.parameters) > 0 && x.result == result && slices.Equal(x.parameters, parameters) {
			l = append(l, x.name)
		}
	}
	if len(l) > 0 && r.Intn(5) > 0 {
		return name(l[max(r.Intn(len(l)), r.Intn(len(l)))])
	}
	switch t {
	case integer:
		return number(r.Intn(3))
	case boolean:
		return n(r.op(api.OpTrue, api.OpFalse))
	case process:
		return n(r.op(api.OpStop, api.OpSkip, api.OpDiv0))
	case sequence:
		return n(api.OpSeq)
	case set:
		return name("N")
	case pair:
		return n(api.OpTuple, number(1), n(api.OpSeq))
	case dotted:
		return n(api.OpDot, number(1), n(api.OpTrue))
	case data:
		return name("A")
	case event:
		return name("a")
	case events:
		return name("Events")
	case mapping:
		return n(api.OpMap)
	}
	return r.inside(func() list { return r.lambda(parameters, result) })
}

// call returns a call of a function, if one is visible.
func (r *maker) call(t what) list {
	var l []entry
	for _, x := range r.env {
		if x.result == t && len(x.parameters) > 0 {
			l = append(l, x)
		}
	}
	if len(l) == 0 {
		return r.short(t)
	}
	f := l[max(r.Intn(len(l)), r.Intn(len(l)))]
	var arguments []list
	for _, p := range f.parameters {
		arguments = append(arguments, r.e(p))
	}
	return call(f.name, arguments...)
}

// lambda returns a Lambda, or something that is a function otherwise.
func (r *maker) lambda(parameters []what, result what) list {
	return r.inside(func() list {
		var patterns []list
		for _, p := range parameters {
			patterns = append(patterns, r.p(p))
		}
		return n(api.OpLambda, params(patterns...), r.e(result))
	})
}

// declared is a function that has a name and waits for its clauses.
type declared struct {
	entry
	clauses int
}

// declare makes the name of a function visible.
func (r *maker) declare(prefix string) declared {
	d := declared{entry{name: r.fresh(prefix), result: what(r.Intn(int(kinds)))}, 1}
	if r.Intn(3) == 0 {
		d.result = process
	}
	for range r.Intn(3) {
		d.parameters = append(d.parameters, what(r.Intn(int(kinds))))
		d.clauses = 1 + r.Intn(2)
	}
	r.env = append(r.env, d.entry)
	return d
}

// funs returns the clauses of a function.
func (r *maker) funs(d declared) []list {
	var l []list
	for range d.clauses {
		l = append(l, r.inside(func() list {
			var patterns []list
			for _, p := range d.parameters {
				patterns = append(patterns, r.p(p))
			}
			return with(d.name, 0, n(api.OpFun, params(patterns...), r.e(d.result)))
		}))
	}
	return l
}

// bind returns a Bind that waits for its expression. Its pattern is not a Name.
func (r *maker) bind() (list, what) {
	for {
		outside := len(r.env)
		t := what(r.Intn(int(kinds)))
		if p := r.p(t); p[0].Op != api.OpName {
			return p, t
		}
		r.env = r.env[:outside]
	}
}

// let returns a Let.
func (r *maker) let(t what) list {
	var functions []declared
	var patterns []list
	var kinds []what
	for range 1 + r.Intn(3) {
		if r.Intn(4) == 0 {
			p, kind := r.bind()
			patterns, kinds = append(patterns, p), append(kinds, kind)
		} else {
			functions = append(functions, r.declare("g"))
		}
	}
	var l []list
	for _, f := range functions {
		l = append(l, r.funs(f)...)
	}
	for k, p := range patterns {
		at := r.Intn(len(l) + 1)
		if at > 0 && at < len(l) && l[at][0].Str == l[at-1][0].Str { // not between clauses
			at = len(l)
		}
		l = slices.Insert(l, at, n(api.OpBind, p, r.e(kinds[k])))
	}
	return n(api.OpLet, n(api.OpBlock, l...), r.e(t))
}

// p returns a pattern and makes its variables visible.
func (r *maker) p(t what) list {
	switch k := r.Intn(6); {
	case k == 0:
		return n(api.OpWild)
	case k == 1:
		return n(api.OpBoth, r.p(t), r.p(t))
	case k < 4:
		switch t {
		case integer:
			return r.one(func() list { return number(r.Intn(3)) }, func() list { return n(api.OpNeg, number(r.Intn(3))) })
		case boolean:
			return n(r.op(api.OpTrue, api.OpFalse))
		case sequence:
			return r.sequencePattern()
		case set:
			return r.one(func() list { return n(api.OpSet) }, func() list { return n(api.OpSet, r.p(integer)) })
		case pair:
			return n(api.OpTuple, r.p(integer), r.p(sequence))
		case dotted:
			return n(api.OpDot, r.p(integer), r.p(boolean))
		case data:
			return r.one(func() list { return name("A") }, func() list { return n(api.OpDot, name("B"), r.p(integer)) }, func() list { return n(api.OpDot, n(api.OpDot, name("C"), r.p(data)), r.p(boolean)) })
		case event:
			return r.one(func() list { return name("a") }, func() list { return n(api.OpDot, n(api.OpDot, name("c"), r.p(integer)), r.p(boolean)) })
		}
	}
	v := entry{name: r.fresh("v"), result: t}
	r.env = append(r.env, v)
	return name(v.name)
}

func (r *maker) sequencePattern() list {
	elements := func() list {
		var l []list
		for range r.Intn(3) {
			l = append(l, r.p(integer))
		}
		return n(api.OpSeq, l...)
	}
	switch r.Intn(4) {
	case 0:
		return elements()
	case 1:
		return n(api.OpCat, elements(), elements())
	case 2:
		left := n(api.OpCat, elements(), elements())
		return n(api.OpCat, left, n(api.OpWild))
	}
	left := elements()
	r.env = append(r.env, entry{name: r.fresh("v"), result: sequence})
	rest := name(r.env[len(r.env)-1].name)
	return n(api.OpCat, left, n(api.OpCat, rest, elements()))
}

// generators returns Params with generators and conditions.
func (r *maker) generators(ofSets bool) list {
	var l []list
	for range 1 + r.Intn(3) {
		if len(l) > 0 && r.Intn(3) == 0 {
			l = append(l, r.e(boolean))
			continue
		}
		switch source := r.Intn(3); {
		case !ofSets:
			s := r.e(sequence)
			l = append(l, n(api.OpGen, r.p(integer), s))
		case source == 0:
			l = append(l, n(api.OpGen, r.p(data), name("T")))
		default:
			s := r.e(set)
			l = append(l, n(api.OpGen, r.p(integer), s))
		}
	}
	return params(l...)
}
