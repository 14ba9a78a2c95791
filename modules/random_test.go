package modules_test

import (
	"math/rand"
	"slices"
	"testing"

	"cspcheck/api"
	"cspcheck/modules"
	"cspcheck/syntax"
)

// maker makes random programs of few names. Mistakes is how many of a hundred choices are made without care.
type maker struct {
	*rand.Rand
	mistakes int
	budget   int
	arity    map[string]int // the numbers of the parameters of modules
	fresh    []string       // the names that the members of the module at hand can still have
}

func (r *maker) errs() bool {
	return r.Intn(100) < r.mistakes
}

func (r *maker) one(l ...string) string {
	return l[r.Intn(len(l))]
}

// name returns a name of a function, constructor or channel.
func (r *maker) name() string {
	return r.one("a", "b", "c", "d", "A", "B", "C", "D")
}

// member returns a name for a declaration of a module.
func (r *maker) member() string {
	if len(r.fresh) == 0 || r.errs() {
		return r.name()
	}
	i := r.Intn(len(r.fresh))
	s := r.fresh[i]
	r.fresh = slices.Delete(r.fresh, i, i+1)
	return s
}

func (r *maker) pattern() []api.Node {
	name := node(api.OpName, r.name())
	switch r.Intn(9) {
	case 0:
		return node(api.OpTuple, "", r.pattern(), r.pattern())
	case 1:
		return node(api.OpSeq, "", r.pattern(), r.pattern())
	case 2:
		return node(api.OpCat, "", name, node(api.OpSeq, "", r.pattern()))
	case 3:
		return node(api.OpDot, "", name, r.pattern())
	case 4:
		return node(api.OpBoth, "", name, r.pattern())
	case 5:
		return node(api.OpSet, "", r.pattern())
	}
	return name
}

func (r *maker) several(least int, each func() []api.Node) [][]api.Node {
	var l [][]api.Node
	for range least + r.Intn(3) {
		l = append(l, each())
	}
	return l
}

func (r *maker) gens(before ...[]api.Node) []api.Node {
	l := r.several(1, func() []api.Node {
		if r.Intn(4) == 0 {
			return r.expression()
		}
		return node(api.OpGen, "", r.pattern(), r.expression())
	})
	return node(api.OpParams, "", append(before, l...)...)
}

func (r *maker) pair() []api.Node {
	return node(api.OpPair, "", r.expression(), r.expression())
}

func (r *maker) field() []api.Node {
	op := []int{api.OpInput, api.OpSome, api.OpOutput}[r.Intn(3)]
	if op == api.OpOutput {
		return node(op, "", r.expression())
	}
	if r.Intn(2) == 0 {
		return node(op, "", r.pattern())
	}
	return node(op, "", r.pattern(), r.expression())
}

func (r *maker) repeat() []api.Node {
	ops := []int{api.OpExtern, api.OpIntern, api.OpInter, api.OpSequence, api.OpParallel, api.OpSync, api.OpAlpha}
	op := ops[r.Intn(len(ops))]
	parts := [][]api.Node{r.gens(), r.expression()}
	switch op {
	case api.OpParallel, api.OpSync:
		parts = append([][]api.Node{r.expression()}, parts...)
	case api.OpAlpha:
		parts = append(parts, r.expression())
	}
	p := node(api.OpRepeat, "", parts...)
	p[0].Int = int64(op)
	return p
}

func (r *maker) expression() []api.Node {
	r.budget--
	if r.budget < 0 || r.Intn(3) == 0 {
		if r.Intn(12) == 0 && r.errs() {
			return node(api.OpName, r.one("M", "N", "I", "J")+"::"+r.name())
		}
		return node(api.OpName, r.name())
	}
	switch r.Intn(10) {
	case 0:
		return node(api.OpTuple, "", r.expression(), r.expression())
	case 1:
		return node(api.OpLambda, "", node(api.OpParams, "", r.several(1, r.pattern)...), r.expression())
	case 2, 3:
		return node(api.OpLet, "", node(api.OpBlock, "", r.several(1, r.local)...), r.expression())
	case 4:
		return node([]int{api.OpSeqComp, api.OpSetComp, api.OpEvComp}[r.Intn(3)], "", r.expression(), r.gens())
	case 5:
		return r.repeat()
	case 6:
		pairs := r.several(1, r.pair)
		if r.Intn(3) == 0 {
			return node(api.OpRename, "", r.expression(), node(api.OpParams, "", pairs...))
		}
		return node(api.OpRename, "", r.expression(), r.gens(pairs...))
	case 7, 8:
		parts := append([][]api.Node{r.expression()}, r.several(0, r.field)...)
		return node(api.OpPrefix, "", append(parts, r.expression())...)
	}
	return node(api.OpLink, "", r.expression(), node(api.OpParams, "", r.several(1, r.pair)...), r.expression())
}

func (r *maker) typeTree() []api.Node {
	switch r.Intn(4) {
	case 0:
		return node(api.OpTypeSeq, "", r.typeTree())
	case 1:
		return node(api.OpTypeVar, r.one("a", "b", "c"))
	}
	return node(api.OpTypeName, r.one("A", "B", "C", "Int"))
}

// definition makes a Fun, Sig or Bind.
func (r *maker) definition(name func() string) []api.Node {
	switch r.Intn(5) {
	case 0:
		return node(api.OpSig, r.name(), r.typeTree())
	case 1:
		if p := r.pattern(); p[0].Op != api.OpName {
			for i := range p {
				if p[i].Op == api.OpName {
					p[i].Str = name()
				}
			}
			return node(api.OpBind, "", p, r.expression())
		}
	}
	return node(api.OpFun, name(), node(api.OpParams, "", r.several(0, r.pattern)...), r.expression())
}

func (r *maker) local() []api.Node {
	if r.errs() && r.errs() {
		return r.declaration(r.name)
	}
	return r.definition(r.name)
}

// declaration makes a declaration of a module.
func (r *maker) declaration(name func() string) []api.Node {
	switch r.Intn(8) {
	case 0:
		return node(api.OpData, name(), r.several(1, func() []api.Node { return node(api.OpCon, name(), r.several(0, r.expression)...) })...)
	case 1:
		return node(api.OpNametype, name(), r.expression())
	case 2:
		p := node(api.OpChannel, "", r.several(1, func() []api.Node { return node(api.OpName, name()) })...)
		if r.Intn(2) == 0 {
			p[0].Int, p[0].Kids = 1, p[0].Kids+1
			p = append(p, r.expression()...)
		}
		return p
	case 3:
		definition := func() []api.Node { return r.definition(name) }
		return node(api.OpTimed, "", node(api.OpName, r.name()), node(api.OpBlock, "", r.several(1, definition)...))
	}
	return r.definition(name)
}

func (r *maker) module(name string) []api.Node {
	r.fresh = []string{"a", "b", "c", "d", "A", "B", "C", "D", "e", "f", "g", "h"}
	parameter := func() []api.Node { return node(api.OpName, r.member()) }
	member := func() []api.Node {
		if r.errs() && r.errs() {
			return r.top()
		}
		return r.declaration(r.member)
	}
	parameters := r.several(0, parameter)
	r.arity[name] = len(parameters)
	parts := [][]api.Node{node(api.OpParams, "", parameters...), node(api.OpBlock, "", r.several(1, member)...)}
	if r.Intn(2) == 0 {
		parts = append(parts, node(api.OpBlock, "", r.several(1, member)...))
	}
	return node(api.OpModule, name, parts...)
}

func (r *maker) instance(name, of string) []api.Node {
	arguments := r.several(0, r.expression)
	for len(arguments) < r.arity[of] && !r.errs() {
		arguments = append(arguments, r.expression())
	}
	if !r.errs() {
		arguments = arguments[:min(len(arguments), r.arity[of])]
	}
	return node(api.OpInstance, name, node(api.OpName, of), node(api.OpParams, "", arguments...))
}

// top makes a declaration of the program.
func (r *maker) top() []api.Node {
	switch r.Intn(6) {
	case 0:
		return r.module(r.one("M", "N", "I", "J"))
	case 1:
		return r.instance(r.one("M", "N", "I", "J"), r.one("M", "N", "I"))
	}
	return r.declaration(r.name)
}

// program makes a program whose nodes have different positions.
func (r *maker) program() []api.Node {
	r.arity = map[string]int{}
	all := [][]api.Node{r.module("M"), r.instance("I", "M"), r.instance("J", "M"), r.declaration(r.name)}
	if r.Intn(2) == 0 {
		all = append(all, r.module("N"))
	}
	for range r.Intn(3) {
		if r.errs() {
			all = append(all, r.top())
		}
	}
	r.Shuffle(len(all), func(i, j int) { all[i], all[j] = all[j], all[i] })
	p := program(all...)
	for i := range p {
		p[i].Pos = api.Pos{Line: i + 1, Col: 1}
	}
	return p
}

func (o *oracle) firstError() (api.Pos, api.Errno) {
	for i, n := range o.p {
		if e := o.errorAt(i); e != api.OK {
			return n.Pos, e
		}
	}
	return api.Pos{}, api.OK
}

func TestExpandAgainstTheChapter(t *testing.T) {
	counts := map[api.Errno]int{}
	for seed := range 1500 {
		r := &maker{Rand: rand.New(rand.NewSource(int64(seed))), mistakes: []int{0, 5, 50}[seed%3], budget: 5 + seed%40}
		p := r.program()
		if !syntax.Valid(p) {
			continue
		}
		o := newOracle(p)
		wantPos, want := o.firstError()
		counts[want]++
		if want != api.OK {
			wantErrorOf(t, p, wantPos, want)
			continue
		}
		if q, expected := expand(t, p), o.expand(); !slices.Equal(q, expected) {
			t.Errorf("seed %d: Expand of\n%s\nis\n%s\nwant\n%s", seed, syntax.Format(p), syntax.Format(withPrimes(q)), syntax.Format(withPrimes(expected)))
		}
	}
	for _, e := range []api.Errno{api.OK, api.ErrInvalid, api.ErrDuplicate, api.ErrName, api.ErrType} {
		if counts[e] < 50 {
			t.Errorf("error %d occurs only %d times", e, counts[e])
		}
	}
}

func TestBindsAgainstTheChapter(t *testing.T) {
	for seed := range 30 {
		r := &maker{Rand: rand.New(rand.NewSource(int64(seed))), budget: 20}
		p := program(r.declaration(r.name), r.declaration(r.name), r.declaration(r.name))
		if !syntax.Valid(p) {
			continue
		}
		o := newOracle(p)
		for i := range p {
			if got, want := modules.Binds(p, i), o.namesBoundBy(i); !slices.Equal(got, want) {
				t.Fatalf("%s\nnode %d binds %v, want %v", syntax.Format(p), i, got, want)
			}
		}
	}
}

// namesBoundBy returns the names that a node of a flat program binds.
func (o *oracle) namesBoundBy(b int) []string {
	var l []string
	for i, n := range o.p {
		isLocal := n.Op == api.OpFun && o.op(b) == api.OpLet && o.owner(i) == b
		isBinding := i > 0 && o.binds(i) && o.binder(o.patternAround(i)) == b
		if (isLocal || isBinding) && !slices.Contains(l, n.Str) {
			l = append(l, n.Str)
		}
	}
	return l
}
