package core_test

import (
	"math"
	"math/rand"
	"slices"
	"testing"

	"cspcheck/api"
	"cspcheck/core"
	"cspcheck/syntax"
	"cspcheck/value"
)

// wantValid checks Valid and Size, and that they have not changed the core.
func wantValid(t *testing.T, c api.Core, want bool) {
	t.Helper()
	old, size := printed(c), 0
	for _, f := range c.Funcs {
		size += len(f.Body)
	}
	if !want {
		size = 0
	}
	if got := core.Valid(c); got != want {
		t.Errorf("Valid(%.2000s) = %v", old, got)
	}
	if got := core.Size(c); got != size {
		t.Errorf("Size(%.2000s) = %d, want %d", old, got, size)
	}
	if printed(c) != old {
		t.Errorf("Valid or Size changed %.2000s", old)
	}
}

// around returns a core in which function 0 has a body. The others have 0 and 2 parameters and are no process functions, and then process functions.
func around(arity int, body code) api.Core {
	simple := code{{Op: api.CodeInt}}
	return api.Core{
		Funcs: []api.Func{{Arity: arity, Body: body}, {Body: simple}, {Arity: 2, Body: simple}, {Proc: true, Body: simple}, {Arity: 2, Proc: true, Body: simple}},
		Names: []api.Info{{Name: "c", Data: -1, Fields: []int{1, 1}}, {Name: "A"}, {Name: "B", Data: 2, Fields: []int{1}}},
	}
}

// t1 returns a tree of code.
func t1(op, number int, kids ...code) code {
	return slices.Concat(append([]code{{{Op: op, Int: int64(number), Kids: len(kids)}}}, kids...)...)
}

func slot(k int) code { return t1(api.CodeSlot, k) }

// samples returns a node of each kind that can be a child. Slot 0 is always there.
func samples() []code {
	return []code{
		slot(0),
		t1(api.PatVar, 0),
		t1(api.CodeGen, 0, t1(api.PatVar, 0), slot(0)),
		t1(api.CodeIn, 0, t1(api.PatVar, 0)),
		t1(api.CodePair, 0, slot(0), slot(0)),
	}
}

// eachRow calls f with each row of at most so many samples, and with rows of one to three kinds that are longer.
func eachRow(most int, f func(row []code)) {
	var next func(row []code)
	next = func(row []code) {
		f(row)
		if len(row) < most {
			for _, x := range samples() {
				next(append(slices.Clone(row), x))
			}
		}
	}
	next(nil)
	for _, x := range samples() {
		for _, y := range samples() {
			for count := most; count < api.MaxArity+4; count++ {
				many := slices.Repeat([]code{y}, count)
				f(many)
				f(slices.Concat([]code{x}, many))
				f(slices.Concat(many, []code{x}))
				f(slices.Concat([]code{x}, many, []code{x}))
			}
		}
	}
}

// allOps are the operators of code, and some numbers that are none.
func allOps() []int {
	l := []int{-1, 0, 26, 29, 41, 49, 59, 100, math.MaxInt, math.MinInt}
	for op := api.CodeSlot; op <= api.CodeData; op++ {
		l = append(l, op)
	}
	for op := api.PatVar; op <= api.PatBoth; op++ {
		l = append(l, op)
	}
	for op := api.CodePrefix; op <= api.CodeRepeat; op++ {
		l = append(l, op)
	}
	return l
}

// P13.3: the children and Ints of each operator. Each operator is tried with many rows of children.
func TestRowsOfChildren(t *testing.T) {
	valid := 0
	for _, op := range allOps() {
		for _, number := range []int{-1, 0, 1, 2, 3, 4, 5, 9, 12, 13, 16, 17, 30, 33} {
			eachRow(4, func(row []code) {
				c := around(1, inPlace(t1(op, number, row...)))
				want := judged(c)
				if core.Valid(c) != want {
					t.Fatalf("Valid of %s = %v", show(c.Funcs[0].Body), !want)
				}
				if want {
					valid++
				}
			})
		}
	}
	if valid < 500 {
		t.Errorf("only %d bodies are valid", valid)
	}
}

// inPlace returns an expression in which a node is where its operator is permitted.
func inPlace(x code) code {
	switch letterOf(x[0].Op) {
	case "P":
		return t1(api.CodeSelect, 0, slot(0), x, slot(0))
	case "G":
		return t1(api.CodeComp, api.ValSet, x, slot(0))
	case "I":
		return t1(api.CodePrefix, 0, slot(0), x, slot(0))
	case "A":
		return t1(api.CodeLink, 0, slot(0), x, slot(0))
	}
	return x
}

// P13.3: every Int of the operators that have one.
func TestInts(t *testing.T) {
	numbers := []int{math.MinInt, math.MinInt + 1, -1 << 32, 1 << 32, 1<<32 + 1, math.MaxInt - 1, math.MaxInt}
	for number := -2; number < 60; number++ {
		numbers = append(numbers, number)
	}
	for _, op := range allOps() {
		for _, number := range numbers {
			for count := range 5 {
				for _, inside := range []func(x code) code{
					func(x code) code { return x },
					func(x code) code { return t1(api.CodeSeq, 0, x, slot(0)) },
					func(x code) code { return t1(api.CodeSelect, 0, slot(0), x, slot(0)) },
					func(x code) code { return t1(api.CodeComp, api.ValSet, x, slot(0)) },
					func(x code) code { return t1(api.CodePrefix, 0, slot(0), x, slot(0)) },
					func(x code) code { return t1(api.CodeLink, 0, slot(0), x, slot(0)) },
				} {
					for _, kid := range []code{slot(0), t1(api.PatWild, 0)} {
						c := around(1, inside(t1(op, number, slices.Repeat([]code{kid}, count)...)))
						if want := judged(c); core.Valid(c) != want {
							t.Fatalf("Valid of %s = %v", show(c.Funcs[0].Body), !want)
						}
					}
				}
			}
		}
	}
}

// P13.3: slots are there from the node on that adds them. Each body has slots 0 to 2 when # is added, and 1, 2 or 3 in its place.
func TestSlotsAreAdded(t *testing.T) {
	v, wild := t1(api.PatVar, 0), t1(api.PatWild, 0)
	pair := t1(api.PatTuple, 0, v, v)
	gen := func(p, source code) code { return t1(api.CodeGen, 0, p, source) }
	cond := func(x code) code { return t1(api.CodeCond, 0, x) }
	in := func(op int, kids ...code) code { return t1(op, 0, kids...) }
	pairOf := func(x, y code) code { return t1(api.CodePair, 0, x, y) }
	zero := slot(0)
	for k, test := range []struct {
		body func(x code) code
		most int // the last slot at x
	}{
		{func(x code) code { return x }, 0},
		{func(x code) code { return t1(api.CodeLet, 2, x, zero, zero) }, 2},
		{func(x code) code { return t1(api.CodeLet, 2, zero, x, zero) }, 2},
		{func(x code) code { return t1(api.CodeLet, 2, zero, zero, x) }, 2},
		{func(x code) code { return t1(api.CodeTuple, 0, t1(api.CodeLet, 1, zero, zero), x) }, 0},
		{func(x code) code { return t1(api.CodeSelect, 0, x, pair, zero) }, 0},
		{func(x code) code { return t1(api.CodeSelect, 0, zero, pair, x) }, 2},
		{func(x code) code { return t1(api.CodeSelect, 0, zero, wild, x) }, 0},
		{func(x code) code { return t1(api.CodeSeq, 0, t1(api.CodeSelect, 0, zero, v, zero), x) }, 0},
		{func(x code) code { return t1(api.CodeComp, 4, gen(v, x), gen(v, zero), zero) }, 0},
		{func(x code) code { return t1(api.CodeComp, 4, gen(v, zero), gen(v, x), zero) }, 1},
		{func(x code) code { return t1(api.CodeComp, 4, gen(v, zero), cond(x), gen(v, zero), zero) }, 1},
		{func(x code) code { return t1(api.CodeComp, 4, cond(x), gen(pair, zero), zero) }, 0},
		{func(x code) code { return t1(api.CodeComp, 4, gen(pair, zero), cond(zero), x) }, 2},
		{func(x code) code { return t1(api.CodeSeq, 0, t1(api.CodeComp, 5, gen(v, zero), zero), x) }, 0},
		{func(x code) code { return t1(api.CodeComp, 5, gen(v, t1(api.CodeComp, 5, gen(v, zero), zero)), x) }, 1},
		{func(x code) code { return t1(api.CodePrefix, 0, x, in(api.CodeIn, v), zero) }, 0},
		{func(x code) code { return t1(api.CodePrefix, 0, zero, in(api.CodeIn, v), x) }, 1},
		{func(x code) code { return t1(api.CodePrefix, 0, zero, in(api.CodeIn, v, x), in(api.CodeSome, v), zero) }, 0},
		{func(x code) code { return t1(api.CodePrefix, 0, zero, in(api.CodeSome, pair, x), zero) }, 0},
		{func(x code) code { return t1(api.CodePrefix, 0, zero, in(api.CodeSome, v), in(api.CodeIn, v, x), zero) }, 1},
		{func(x code) code {
			return t1(api.CodePrefix, 0, zero, in(api.CodeSome, pair), in(api.CodeOut, x), zero)
		}, 2},
		{func(x code) code { return t1(api.CodePrefix, 0, zero, in(api.CodeOut, x), in(api.CodeIn, v), zero) }, 0},
		{func(x code) code { return t1(api.CodeSeq, 0, t1(api.CodePrefix, 0, zero, in(api.CodeIn, v), zero), x) }, 0},
		{func(x code) code { return t1(api.CodeRename, 0, x, gen(v, zero), pairOf(zero, zero)) }, 0},
		{func(x code) code { return t1(api.CodeRename, 0, zero, gen(v, x), pairOf(zero, zero)) }, 0},
		{func(x code) code { return t1(api.CodeRename, 0, zero, gen(v, zero), gen(v, x), pairOf(zero, zero)) }, 1},
		{func(x code) code { return t1(api.CodeRename, 0, zero, gen(pair, zero), pairOf(zero, x)) }, 2},
		{func(x code) code {
			return t1(api.CodeSeq, 0, t1(api.CodeRename, 0, zero, gen(v, zero), pairOf(zero, zero)), x)
		}, 0},
		{func(x code) code { return t1(api.CodeRepeat, api.ProcExtern, gen(v, x), gen(v, zero), zero) }, 0},
		{func(x code) code { return t1(api.CodeRepeat, api.ProcExtern, gen(v, zero), x) }, 1},
		{func(x code) code { return t1(api.CodeRepeat, api.ProcSync, x, gen(v, zero), zero) }, 0},
		{func(x code) code { return t1(api.CodeRepeat, api.ProcParallel, zero, gen(pair, zero), x) }, 2},
		{func(x code) code { return t1(api.CodeRepeat, api.ProcAlpha, gen(v, zero), x, zero) }, 1},
		{func(x code) code { return t1(api.CodeRepeat, api.ProcAlpha, gen(v, zero), gen(v, zero), zero, x) }, 2},
		{func(x code) code { return t1(api.CodeClause, 0, t1(api.CodeTuple, 0, wild, x)) }, 0},
		{func(x code) code { return t1(api.CodeClause, 0, t1(api.CodeTuple, 0, pair, x)) }, 2},
		{func(x code) code {
			return t1(api.CodeClause, 0, t1(api.CodeTuple, 0, pair, zero), t1(api.CodeTuple, 0, v, x))
		}, 1},
		{func(x code) code { return t1(api.CodeLink, 0, t1(api.CodeLet, 1, zero, zero), pairOf(x, zero), zero) }, 0},
	} {
		for s := -1; s < 5; s++ {
			c := around(1, test.body(slot(s)))
			if want := s >= 0 && s <= test.most; core.Valid(c) != want || judged(c) != want {
				t.Errorf("test %d, slot %d: Valid = %v, in the second implementation %v", k, s, core.Valid(c), judged(c))
			}
		}
	}
}

// P13.3: the clauses of a function.
func TestValidClauses(t *testing.T) {
	clause := func(patterns int) code {
		return t1(api.CodeTuple, 0, append(slices.Repeat([]code{t1(api.PatWild, 0)}, patterns), slot(0))...)
	}
	for arity := 1; arity <= 4*api.MaxArity; arity++ {
		for _, patterns := range []int{0, 1, 2, 8, 9, arity - 1, arity, arity + 1} {
			want := patterns >= 1 && patterns <= arity
			wantValid(t, around(arity, t1(api.CodeClause, 0, clause(patterns))), want)
			wantValid(t, around(arity, t1(api.CodeClause, 0, clause(patterns), clause(patterns), clause(patterns))), want)
		}
		wantValid(t, around(arity, t1(api.CodeClause, 0, clause(1), clause(2))), false)
		wantValid(t, around(arity, t1(api.CodeClause, 0)), false)
		wantValid(t, around(arity, t1(api.CodeClause, 1, clause(1))), false)
		wantValid(t, around(arity, t1(api.CodeSeq, 0, t1(api.CodeClause, 0, clause(1)))), false)
		wantValid(t, around(arity, t1(api.CodeClause, 0, t1(api.CodeSeq, 0, t1(api.PatWild, 0), slot(0)))), false)
		wantValid(t, around(arity, t1(api.CodeClause, 0, t1(api.CodeTuple, 1, t1(api.PatWild, 0), slot(0)))), false)
		wantValid(t, around(arity, t1(api.CodeClause, 0, t1(api.CodeTuple, 0, slot(0), slot(0)))), false)
		wantValid(t, around(arity, t1(api.CodeClause, 0, t1(api.CodeTuple, 0, t1(api.PatWild, 0), t1(api.PatWild, 0)))), false)
		wantValid(t, around(arity, t1(api.CodeClause, 0, t1(api.CodeTuple, 0))), false)
	}
}

// P13.3: the limits of functions and bodies.
func TestLimits(t *testing.T) {
	for arity, want := range map[int]bool{-1: false, 0: true, 1: true, 32: true, 33: false, math.MaxInt: false, math.MinInt: false} {
		wantValid(t, around(arity, t1(api.CodeInt, 7)), want)
		wantValid(t, around(arity, slot(arity-1)), want && arity > 0)
		wantValid(t, around(arity, slot(arity)), false)
	}
	wide := func(nodes int) code { return t1(api.CodeSeq, 0, slices.Repeat([]code{t1(api.CodeInt, 1)}, nodes-1)...) }
	wantValid(t, around(0, wide(api.MaxNodes)), true)
	wantValid(t, around(0, wide(api.MaxNodes+1)), false)
	deep := func(nest int) code {
		l := slices.Repeat(code{{Op: api.CodeSeq, Kids: 1}}, nest)
		l[nest-1].Kids = 0
		return l
	}
	wantValid(t, around(0, deep(256)), true)
	wantValid(t, around(0, deep(257)), false)
	wantValid(t, around(0, t1(api.CodeSeq, 0, deep(3), deep(255), deep(2))), true)
	wantValid(t, around(0, t1(api.CodeSeq, 0, deep(3), deep(256), deep(2))), false)
	pattern := func(nest int) code {
		l := slices.Repeat(code{{Op: api.PatSeq, Kids: 1}}, nest)
		l[nest-1].Kids = 0
		return l
	}
	wantValid(t, around(1, t1(api.CodeSelect, 0, slot(0), pattern(api.MaxNest), slot(0))), true)
	wantValid(t, around(1, t1(api.CodeSelect, 0, slot(0), pattern(api.MaxNest+1), slot(0))), false)
	under := func(nest int, x code) code {
		return append(slices.Repeat(code{{Op: api.CodeSeq, Kids: 1}}, nest), x...)
	}
	wantValid(t, around(1, under(191, t1(api.CodeSelect, 0, slot(0), pattern(64), slot(0)))), true)
	wantValid(t, around(1, under(192, t1(api.CodeSelect, 0, slot(0), pattern(64), slot(0)))), false)
	many := func(n int) api.Core {
		return api.Core{Funcs: slices.Repeat([]api.Func{{Body: t1(api.CodeInt, 1)}}, n)}
	}
	wantValid(t, many(0), true)
	wantValid(t, many(65536), true)
	wantValid(t, many(65537), false)
}

// P13.3: lists that are no single tree.
func TestBodiesThatAreNoTrees(t *testing.T) {
	for _, body := range []code{
		nil, {}, append(slot(0), slot(0)...), {{Op: api.CodeSeq, Kids: 1}}, {{Op: api.CodeSeq, Kids: 2}, {}}, {{Op: api.CodeSeq, Kids: -1}}, {{Op: api.CodeSeq, Kids: math.MaxInt}}, {{Op: api.CodeSeq, Kids: math.MinInt}},
		{{Op: api.CodeSeq, Kids: 1}, {Op: api.CodeSeq, Kids: -1}}, {{Op: api.CodeSeq, Kids: 2}, {Op: api.CodeInt, Kids: 1}, {Op: api.CodeInt}}, t1(api.CodeInt, 0)[:0],
	} {
		wantValid(t, around(1, body), false)
	}
	wantValid(t, api.Core{}, true)
	wantValid(t, api.Core{Funcs: []api.Func{{}}}, false)
}

// P13.3: the descriptions of names.
func TestValidNames(t *testing.T) {
	with := func(info api.Info) api.Core {
		c := around(1, slot(0))
		c.Names = append(c.Names, info)
		return c
	}
	set := value.Set([]api.Value{value.Int(1)})
	wantValid(t, with(api.Info{}), true)
	for data, want := range map[int]bool{-2: false, -1: true, 0: true, 7: true, math.MaxInt: true, math.MinInt: false} {
		wantValid(t, with(api.Info{Data: data}), want)
	}
	for field, want := range map[int]bool{-1: false, 0: false, 1: true, 2: false, 3: true, 4: false, 5: false, math.MaxInt: false, math.MinInt: false} {
		wantValid(t, with(api.Info{Fields: []int{field}}), want)
		wantValid(t, with(api.Info{Fields: []int{1, field, 1}}), want)
	}
	fields := func(n int) []int { return slices.Repeat([]int{1}, n) }
	wantValid(t, with(api.Info{Fields: fields(8)}), true)
	wantValid(t, with(api.Info{Fields: fields(9)}), false)
	for n := range 9 {
		domains := slices.Repeat([]api.Value{set, ""}, 5)[:n]
		wantValid(t, with(api.Info{Fields: fields(3), Domains: domains}), n == 0 || n == 3)
		wantValid(t, with(api.Info{Fields: fields(n), Domains: domains}), true)
	}
	for _, v := range []api.Value{value.Int(1), value.Seq(nil), "x", set + "x", set[:len(set)-1]} {
		wantValid(t, with(api.Info{Fields: fields(2), Domains: []api.Value{set, v}}), false)
	}
	wantValid(t, api.Core{Names: make([]api.Info, 65536)}, true)
	wantValid(t, api.Core{Names: make([]api.Info, 65537)}, false)
}

// P13.3: assertions and events.
func TestValidAssertionsAndEvents(t *testing.T) {
	with := func(a api.Assert) api.Core {
		c := around(1, slot(0))
		c.Asserts = []api.Assert{{Op: api.OpCheck, Left: 1, Right: -1}, a}
		return c
	}
	functions := []int{math.MinInt, -2, -1, 0, 1, 2, 3, 4, 5, math.MaxInt}
	for _, op := range []int{-1, 0, api.OpTimed, api.OpRefine, api.OpCheck, api.OpTrace, api.OpBlock, math.MaxInt} {
		for _, left := range functions {
			for _, right := range functions {
				isNullary := func(k int) bool { return k == 1 || k == 3 }
				want := isNullary(left) && (op == api.OpCheck && right == -1 || (op == api.OpRefine || op == api.OpTrace) && isNullary(right))
				wantValid(t, with(api.Assert{Op: op, Int: 99, Left: left, Right: right}), want)
			}
		}
	}
	events := func(l ...api.Value) api.Core { return api.Core{Events: l} }
	wantValid(t, events(value.Int(1), value.Int(1), value.Set(nil)), true)
	wantValid(t, events(value.Int(1), ""), false)
	wantValid(t, events("x"), false)
	wantValid(t, events(slices.Repeat([]api.Value{value.Int(1)}, api.MaxEvents)...), true)
	wantValid(t, events(slices.Repeat([]api.Value{value.Int(1)}, api.MaxEvents+1)...), false)
}

// P13.3: Valid agrees with the second implementation on cores in which something has been changed.
func TestChangedCores(t *testing.T) {
	r := rand.New(rand.NewSource(13))
	counts := map[bool]int{}
	for seed := range 250 {
		src := syntax.Format(newMaker(seed).program())
		if src == "" {
			continue
		}
		original := lowered(t, src)
		for range 40 {
			c := copied(original)
			for range 1 + r.Intn(2) {
				change(r, &c)
			}
			want := judged(c)
			if got := core.Valid(c); got != want {
				t.Fatalf("Valid = %v of a changed core of\n%s\n%s\nwhich was\n%s", got, src, printed(c), printed(original))
			}
			counts[want]++
		}
	}
	if counts[true] < 500 || counts[false] < 500 {
		t.Errorf("numbers of cores that are valid or not: %v", counts)
	}
}

// copied returns a core that can be changed.
func copied(c api.Core) api.Core {
	c.Funcs, c.Names = slices.Clone(c.Funcs), slices.Clone(c.Names)
	for k := range c.Funcs {
		c.Funcs[k].Body = slices.Clone(c.Funcs[k].Body)
	}
	for k := range c.Names {
		c.Names[k].Fields = slices.Clone(c.Names[k].Fields)
	}
	return c
}

// change changes something in a core.
func change(r *rand.Rand, c *api.Core) {
	f := &c.Funcs[r.Intn(len(c.Funcs))]
	at := r.Intn(len(f.Body))
	n := &f.Body[at]
	switch r.Intn(12) {
	case 0:
		n.Kids += 1 - 2*r.Intn(2)
	case 1, 2, 3:
		n.Int += int64(1 - 2*r.Intn(2))
	case 4:
		ops := allOps()
		n.Op = ops[r.Intn(len(ops))]
	case 5:
		f.Body = slices.Delete(f.Body, at, at+1)
		if len(f.Body) == 0 {
			f.Body = code{{Op: api.CodeInt}}
		}
	case 6:
		f.Body = slices.Insert(f.Body, at, f.Body[r.Intn(len(f.Body))])
	case 7:
		f.Arity += 1 - 2*r.Intn(2)
	case 8:
		f.Proc = !f.Proc
	case 9:
		x := &c.Names[r.Intn(len(c.Names))]
		x.Fields = append(x.Fields, r.Intn(len(c.Funcs)))
	case 10:
		x := &c.Names[r.Intn(len(c.Names))]
		x.Data += r.Intn(3) - 1
	case 11:
		other := c.Funcs[r.Intn(len(c.Funcs))].Body[:1]
		*n = other[0]
	}
}
