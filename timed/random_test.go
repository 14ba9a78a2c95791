package timed_test

import (
	"math/rand"
	"slices"
	"testing"

	"cspcheck/api"
	"cspcheck/modules"
)

// maker makes random flat programs.
type maker struct {
	*rand.Rand
	budget     int
	isSlovenly bool // with operators that are not permitted in sections
}

func (r *maker) name() []api.Node {
	return node(api.OpName, []string{"P", "Q", "a", "b", "I::c"}[r.Intn(5)])
}

func (r *maker) several(least int, each func() []api.Node) [][]api.Node {
	var l [][]api.Node
	for range least + r.Intn(3) {
		l = append(l, each())
	}
	return l
}

func (r *maker) pattern() []api.Node {
	r.budget--
	if r.budget < 0 {
		return node(api.OpWild, "")
	}
	switch r.Intn(12) {
	case 0, 1:
		return node(api.OpTuple, "", r.pattern(), r.pattern())
	case 2:
		return node(api.OpSeq, "", r.pattern())
	case 3:
		return node(api.OpCat, "", node(api.OpWild, ""), node(api.OpSeq, "", r.pattern()))
	case 4:
		return node(api.OpDot, "", r.pattern(), r.pattern())
	case 5, 6:
		return node(api.OpBoth, "", r.pattern(), r.pattern())
	case 7:
		return node(api.OpNeg, "", node(api.OpInt, ""))
	case 8, 9:
		return node(api.OpWild, "")
	}
	return r.name()
}

func (r *maker) field() []api.Node {
	op := []int{api.OpInput, api.OpSome, api.OpOutput}[r.Intn(3)]
	if op == api.OpOutput {
		return node(op, "", r.expression())
	}
	if r.Intn(2) == 0 {
		return node(op, "", r.pattern())
	}
	return node(op, "", r.pattern(), r.expression())
}

func (r *maker) gens() []api.Node {
	return node(api.OpParams, "", r.several(1, func() []api.Node {
		if r.Intn(3) == 0 {
			return r.expression()
		}
		return node(api.OpGen, "", r.pattern(), r.expression())
	})...)
}

func (r *maker) pair() []api.Node {
	return node(api.OpPair, "", r.expression(), r.expression())
}

func (r *maker) repeat() []api.Node {
	ops := []int{api.OpExtern, api.OpIntern, api.OpInter, api.OpSequence, api.OpParallel, api.OpSync, api.OpAlpha}
	op := ops[r.Intn(len(ops))]
	parts := [][]api.Node{r.gens(), r.expression()}
	switch op {
	case api.OpParallel, api.OpSync:
		parts = slices.Insert(parts, 0, r.expression())
	case api.OpAlpha:
		parts = append(parts, r.expression())
	}
	p := node(api.OpRepeat, "", parts...)
	p[0].Int = int64(op)
	return p
}

// operator makes an operator whose parts are expressions.
func (r *maker) operator() []api.Node {
	ops := [][]int{
		{api.OpNot, api.OpLen, api.OpChase, api.OpSeqFrom},
		{api.OpGuard, api.OpSequence, api.OpExtern, api.OpIntern, api.OpInter, api.OpHide, api.OpPrior, api.OpDot, api.OpBoth, api.OpApply, api.OpTuple, api.OpSet},
		{api.OpThrow, api.OpSync, api.OpParallel, api.OpIf, api.OpEvents},
		{api.OpAlpha, api.OpSeq},
	}
	if r.isSlovenly && r.Intn(4) == 0 {
		return node([]int{api.OpInterrupt, api.OpSlide}[r.Intn(2)], "", r.expression(), r.expression())
	}
	parts := r.Intn(len(ops))
	op := ops[parts][r.Intn(len(ops[parts]))]
	kids := [][]api.Node{r.expression()}
	for range parts {
		kids = append(kids, r.expression())
	}
	return node(op, "", kids...)
}

func (r *maker) expression() []api.Node {
	r.budget--
	if r.budget < 0 || r.Intn(4) == 0 {
		leaves := []int{api.OpStop, api.OpSkip, api.OpDiv0, api.OpWild, api.OpInt}
		if k := r.Intn(10); k < len(leaves) {
			return node(leaves[k], "")
		}
		return r.name()
	}
	switch r.Intn(10) {
	case 0, 1, 2:
		parts := append([][]api.Node{r.expression()}, r.several(0, r.field)...)
		return node(api.OpPrefix, "", append(parts, r.expression())...)
	case 3:
		return node(api.OpLet, "", node(api.OpBlock, "", r.several(1, r.definition)...), r.expression())
	case 4:
		return node(api.OpLambda, "", node(api.OpParams, "", r.several(1, r.pattern)...), r.expression())
	case 5:
		return node([]int{api.OpSeqComp, api.OpSetComp, api.OpEvComp}[r.Intn(3)], "", r.expression(), r.gens())
	case 6:
		return r.repeat()
	case 7:
		if r.isSlovenly && r.Intn(4) == 0 {
			return node(api.OpLink, "", r.expression(), node(api.OpParams, "", r.pair()), r.expression())
		}
		return node(api.OpRename, "", r.expression(), node(api.OpParams, "", append(r.several(1, r.pair), node(api.OpGen, "", r.pattern(), r.expression()))...))
	}
	return r.operator()
}

func (r *maker) definition() []api.Node {
	switch r.Intn(6) {
	case 0:
		return node(api.OpSig, "P", node(api.OpTypeName, "Proc"))
	case 1:
		return node(api.OpBind, "", node(api.OpTuple, "", r.pattern(), r.pattern()), r.expression())
	}
	return node(api.OpFun, "P", node(api.OpParams, "", r.several(0, r.pattern)...), r.expression())
}

func (r *maker) declaration() []api.Node {
	switch r.Intn(5) {
	case 0, 1, 2:
		return node(api.OpTimed, "", r.name(), node(api.OpBlock, "", r.several(1, r.definition)...))
	case 3:
		return node(api.OpNametype, "N", r.expression())
	}
	return r.definition()
}

// program makes a program whose nodes have different positions.
func (r *maker) program() []api.Node {
	l := r.several(1, r.declaration)
	l = slices.Insert(l, r.Intn(len(l)+1), node(api.OpChannel, "", r.name(), node(api.OpName, "tock")))
	p := node(api.OpProgram, "", l...)
	for i := range p {
		p[i].Pos = api.Pos{Line: i + 1, Col: 1}
		if p[i].Op == api.OpParams {
			p[i].Pos = api.Pos{}
		}
	}
	return p
}

func TestTranslateAgainstTheChapter(t *testing.T) {
	counts := map[api.Errno]int{}
	for seed := range 2000 {
		r := &maker{Rand: rand.New(rand.NewSource(int64(seed))), budget: seed % 50, isSlovenly: seed%4 == 0}
		p := r.program()
		if !modules.Flat(p) {
			continue
		}
		if at, ok := notPermitted(p); ok {
			counts[api.ErrInvalid]++
			wantErrorOf(t, p, at, api.ErrInvalid)
			continue
		}
		want := (&oracle{t: t}).program(p)
		if !modules.Flat(want) {
			counts[api.ErrFull]++
			wantErrorOf(t, p, api.Pos{}, api.ErrFull)
			continue
		}
		counts[api.OK]++
		if q := translate(t, p); !slices.Equal(q, want) {
			t.Errorf("seed %d: Translate of\n%s\nis\n%s\nwant\n%s", seed, text(p), text(q), text(want))
		}
	}
	if counts[api.OK] < 500 || counts[api.ErrInvalid] < 50 || counts[api.ErrFull] < 5 {
		t.Errorf("the errors occur in these numbers: %v", counts)
	}
}
