package syntax_test

import (
	"math"
	"slices"
	"strings"
	"testing"

	"cspcheck/api"
	"cspcheck/syntax"
)

// node is a tree; its children are behind it in the list that list returns.
type node struct {
	op   int
	num  int64
	str  string
	kids []node
}

func n(op int, kids ...node) node             { return node{op: op, kids: kids} }
func s(op int, str string, kids ...node) node { return node{op: op, str: str, kids: kids} }
func num(op, num int, kids ...node) node      { return node{op: op, num: int64(num), kids: kids} }
func name(str string) node                    { return s(api.OpName, str) }
func params(kids ...node) node                { return n(api.OpParams, kids...) }
func times(count int, x node) []node          { return slices.Repeat([]node{x}, count) }

func (x node) list() []api.Node {
	l := []api.Node{{Op: x.op, Int: x.num, Str: x.str, Kids: len(x.kids)}}
	for _, k := range x.kids {
		l = append(l, k.list()...)
	}
	return l
}

// with returns the program with one declaration.
func with(decl node) []api.Node { return n(api.OpProgram, decl).list() }

// withExpr returns the program f = x.
func withExpr(x node) []api.Node { return with(s(api.OpFun, "f", params(), x)) }

// withType returns the program f :: x.
func withType(x node) []api.Node { return with(s(api.OpSig, "f", x)) }

// withPattern returns the programs in which x is at the places of patterns.
func withPattern(x node) [][]api.Node {
	one := num(api.OpInt, 1)
	return [][]api.Node{
		with(s(api.OpFun, "f", params(name("a"), x), one)),
		withExpr(n(api.OpLambda, params(name("a"), x), one)),
		withExpr(n(api.OpSetComp, one, params(n(api.OpGen, x, one)))),
		withExpr(n(api.OpPrefix, one, n(api.OpInput, x, one), one)),
		withExpr(n(api.OpPrefix, one, n(api.OpSome, x), one)),
		with(n(api.OpBind, x, one)),
	}
}

func wantValid(t *testing.T, p []api.Node, want bool) {
	t.Helper()
	if got := syntax.Valid(p); got != want {
		t.Errorf("Valid(%.300s) = %v", drawing(p), got)
		return
	}
	if want {
		wantBack(t, p)
		return
	}
	if text := syntax.Format(p); text != "" {
		t.Errorf("%.300s is not valid, but has the text %q", drawing(p), text)
	}
	for i := -1; i <= len(p); i++ {
		if l, end := syntax.Children(p, i), syntax.End(p, i); len(l) != 0 || end != 0 {
			t.Errorf("%.300s is not valid, but node %d has children %v and end %d", drawing(p), i, l, end)
		}
	}
}

// P3.3

func TestValidTakesOnlyOneProgram(t *testing.T) {
	fun := s(api.OpFun, "f", params(), name("x"))
	wantValid(t, nil, false)
	wantValid(t, n(api.OpProgram).list(), false)
	wantValid(t, n(api.OpProgram, fun).list(), true)
	wantValid(t, n(api.OpProgram, fun, fun).list(), true)
	wantValid(t, n(api.OpBlock, fun).list(), false)
	wantValid(t, fun.list(), false)
	wantValid(t, name("x").list(), false)
	wantValid(t, with(n(api.OpProgram, fun)), false)
	wantValid(t, with(n(api.OpBlock, fun)), false)
	wantValid(t, slices.Concat(with(fun), with(fun)), false)
	wantValid(t, slices.Concat(with(fun), name("x").list()), false)
	p := with(fun)
	for i := range p {
		wantValid(t, p[:i], false)
		for _, kids := range []int{-1, p[i].Kids + 1, p[i].Kids - 1, math.MaxInt, math.MinInt} {
			q := slices.Clone(p)
			q[i].Kids = kids
			wantValid(t, q, false)
		}
	}
}

func TestValidIgnoresPositions(t *testing.T) {
	p := withExpr(n(api.OpAdd, name("x"), num(api.OpInt, 1)))
	for i := range p {
		p[i].Pos = api.Pos{Line: -i, Col: math.MaxInt}
	}
	wantValid(t, p, true)
}

func TestValidChecksOperators(t *testing.T) {
	for op := -1; op < 120; op++ {
		is := op == api.OpTrue || op == api.OpFalse || op == api.OpWild || op == api.OpInt || op == api.OpStop || op == api.OpSkip || op == api.OpDiv0 ||
			op == api.OpSeq || op == api.OpSet || op == api.OpMap || op == api.OpEvents
		wantValid(t, withExpr(n(op)), is)
		wantValid(t, with(n(op)), false)
		wantValid(t, withType(n(op)), false)
		wantValid(t, withType(s(op, "A")), op == api.OpTypeName)
		wantValid(t, withType(s(op, "a")), op == api.OpTypeVar)
		wantValid(t, withExpr(s(op, "a")), op == api.OpName)
		wantValid(t, n(op, s(api.OpFun, "f", params(), name("x"))).list(), op == api.OpProgram)
	}
	wantValid(t, withExpr(n(api.OpSetFrom, name("x"))), false)
	wantValid(t, withExpr(n(math.MaxInt)), false)
	wantValid(t, withExpr(n(math.MinInt)), false)
}

func TestValidChecksTextsAndNumbers(t *testing.T) {
	long := strings.Repeat("x", api.MaxName)
	for str, is := range map[string]bool{"x": true, "X'": true, "deadlock": true, long: true, "M::x": true, long + "::" + long: true, "": false, long + "x": false, "let": false, "1": false, "_": false, "x y": false, "M::": false, "::x": false, "M::x::y": false, "M:x": false, "M::let": false, "Timed::x": false, "M :: x": false, "é": false} {
		wantValid(t, withExpr(name(str)), is)
		isPlain := is && !strings.Contains(str, "::")
		for _, decl := range []node{
			s(api.OpFun, str, params(), name("x")), s(api.OpSig, str, s(api.OpTypeVar, "a")), s(api.OpData, str, s(api.OpCon, "A")), s(api.OpData, "T", s(api.OpCon, str)), s(api.OpNametype, str, name("x")),
			n(api.OpChannel, name(str)), num(api.OpChannel, 1, name(str), name("x")), s(api.OpModule, str, params(), n(api.OpBlock, s(api.OpFun, "f", params(), name("x")))), s(api.OpModule, "M", params(name(str)), n(api.OpBlock, s(api.OpFun, "f", params(), name("x")))),
			s(api.OpInstance, str, name("M"), params()), s(api.OpInstance, "I", name(str), params()), n(api.OpTimed, name(str), n(api.OpBlock, s(api.OpFun, "f", params(), name("x")))), s(api.OpSig, "f", s(api.OpClass, str, s(api.OpTypeVar, "a")), s(api.OpTypeVar, "a")),
			s(api.OpFun, "f", params(name(str)), name("x")),
		} {
			wantValid(t, with(decl), isPlain)
		}
	}
	for i, x := range []node{num(api.OpInt, 0), num(api.OpInt, math.MaxInt64), num(api.OpInt, -1), num(api.OpInt, math.MinInt64), s(api.OpInt, "1"), num(api.OpTrue, 1), s(api.OpTrue, "true"), {op: api.OpName, num: 1, str: "x"}, n(api.OpAdd, name("x")), {op: api.OpNot, str: "x", kids: []node{name("x")}}, num(api.OpNot, 1, name("x"))} {
		wantValid(t, withExpr(x), i < 2)
	}
	wantValid(t, with(node{op: api.OpFun, num: 1, str: "f", kids: []node{params(), name("x")}}), false)
	wantValid(t, with(s(api.OpFun, "f", num(api.OpParams, 1), name("x"))), false)
	wantValid(t, with(s(api.OpFun, "f", s(api.OpParams, "x"), name("x"))), false)
	wantValid(t, withType(s(api.OpTypeVar, "A")), false)
	wantValid(t, withType(s(api.OpTypeName, "a")), false)
	wantValid(t, withType(s(api.OpTypeName, "M::A")), false)
	wantValid(t, withType(s(api.OpTypeVar, "let")), false)
}

func TestValidChecksNumbersOfDeclarations(t *testing.T) {
	x := name("x")
	for i := -5; i <= 5; i++ {
		wantValid(t, with(num(api.OpRefine, i, x, x)), i != 0 && -3 <= i && i <= 3)
		wantValid(t, with(num(api.OpCheck, i, x)), i != 0 && -3 <= i && i <= 3)
		wantValid(t, with(num(api.OpTrace, i, x, x)), i == 1 || i == -1)
		wantValid(t, with(num(api.OpChannel, i, x, x)), i == 0 || i == 1)
	}
	for _, op := range []int{api.OpRefine, api.OpCheck, api.OpTrace, api.OpRepeat, api.OpChannel} {
		wantValid(t, with(node{op: op, num: math.MinInt64, kids: []node{x, x}}), false)
	}
	gens := params(n(api.OpGen, x, x))
	for op := -1; op < 110; op++ {
		wantValid(t, withExpr(num(api.OpRepeat, op, gens, x)), op == api.OpExtern || op == api.OpIntern || op == api.OpInter || op == api.OpSequence)
		wantValid(t, withExpr(num(api.OpRepeat, op, x, gens, x)), op == api.OpParallel || op == api.OpSync)
		wantValid(t, withExpr(num(api.OpRepeat, op, gens, x, x)), op == api.OpAlpha)
		wantValid(t, withExpr(num(api.OpRepeat, -op, gens, x)), false)
	}
}

// counts are the operators of expressions whose children are all expressions, with the least and the greatest number of children.
var counts = []struct{ op, least, most int }{
	{api.OpTuple, 2, 8}, {api.OpSeq, 0, 20}, {api.OpSet, 0, 20}, {api.OpEvents, 0, 20}, {api.OpSeqFrom, 1, 1}, {api.OpSeqTo, 2, 2}, {api.OpSetTo, 2, 2}, {api.OpApply, 1, 9},
	{api.OpDot, 2, 2}, {api.OpCat, 2, 2}, {api.OpLen, 1, 1}, {api.OpNeg, 1, 1}, {api.OpMul, 2, 2}, {api.OpDiv, 2, 2}, {api.OpMod, 2, 2}, {api.OpAdd, 2, 2}, {api.OpSub, 2, 2},
	{api.OpEq, 2, 2}, {api.OpNe, 2, 2}, {api.OpLt, 2, 2}, {api.OpLe, 2, 2}, {api.OpGt, 2, 2}, {api.OpGe, 2, 2}, {api.OpNot, 1, 1}, {api.OpAnd, 2, 2}, {api.OpOr, 2, 2}, {api.OpBoth, 2, 2}, {api.OpIf, 3, 3},
	{api.OpPrefix, 2, 2}, {api.OpGuard, 2, 2}, {api.OpSequence, 2, 2}, {api.OpExtern, 2, 2}, {api.OpIntern, 2, 2}, {api.OpInterrupt, 2, 2}, {api.OpSlide, 2, 2}, {api.OpThrow, 3, 3}, {api.OpSync, 3, 3},
	{api.OpHide, 2, 2}, {api.OpParallel, 3, 3}, {api.OpAlpha, 4, 4}, {api.OpInter, 2, 2}, {api.OpPrior, 2, 2}, {api.OpChase, 1, 1},
	{api.OpTrue, 0, 0}, {api.OpFalse, 0, 0}, {api.OpWild, 0, 0}, {api.OpStop, 0, 0}, {api.OpSkip, 0, 0}, {api.OpDiv0, 0, 0}, {api.OpInt, 0, 0}, {api.OpMap, 0, 0},
	{api.OpLet, 9, 8}, {api.OpLambda, 9, 8}, {api.OpSeqComp, 9, 8}, {api.OpSetComp, 9, 8}, {api.OpEvComp, 9, 8}, {api.OpRename, 9, 8}, {api.OpLink, 9, 8}, {api.OpRepeat, 9, 8},
	{api.OpGen, 9, 8}, {api.OpPair, 9, 8}, {api.OpInput, 9, 8}, {api.OpSome, 9, 8}, {api.OpOutput, 9, 8}, {api.OpSetFrom, 9, 8}, {api.OpParams, 9, 8}, {api.OpBlock, 9, 8}, {api.OpCon, 9, 8},
}

func TestValidCountsExpressions(t *testing.T) {
	for _, c := range counts {
		for k := range 12 {
			wantValid(t, withExpr(n(c.op, times(k, name("x"))...)), c.least <= k && k <= c.most)
			if k > 0 {
				wantValid(t, withExpr(n(c.op, append(times(k-1, name("x")), s(api.OpTypeName, "T"))...)), false)
				wantValid(t, withExpr(n(c.op, append(times(k-1, name("x")), s(api.OpFun, "f", params(), name("x")))...)), false)
			}
		}
	}
}

func TestValidChecksDeclarations(t *testing.T) {
	x, fun, v := name("x"), s(api.OpFun, "f", params(), name("x")), s(api.OpTypeVar, "a")
	block, class, con := n(api.OpBlock, fun), s(api.OpClass, "Eq", v), s(api.OpCon, "A")
	for i, decl := range []node{
		s(api.OpFun, "f", params(times(8, x)...), x), n(api.OpBind, n(api.OpTuple, x, x), x), s(api.OpSig, "f", v), s(api.OpSig, "f", append(times(9, class), v)...), s(api.OpData, "T", times(9, con)...), s(api.OpData, "T", s(api.OpCon, "A", times(8, x)...)),
		s(api.OpNametype, "T", x), n(api.OpChannel, times(9, x)...), num(api.OpChannel, 1, x, n(api.OpIf, x, x, x)), s(api.OpModule, "M", params(times(8, x)...), block), s(api.OpModule, "M", params(), block, block),
		s(api.OpInstance, "I", x, params(times(8, n(api.OpGt, x, x))...)), n(api.OpTimed, x, block), s(api.OpFun, "f", params(), n(api.OpLet, n(api.OpBlock, fun, fun, s(api.OpData, "T", con)), x)), fun,
		// those that are not valid
		s(api.OpFun, "f", x), s(api.OpFun, "f", params()), s(api.OpFun, "f", params(), x, x), s(api.OpFun, "f", x, x), s(api.OpFun, "f", params(times(9, x)...), x), s(api.OpFun, "f", params(), params()), s(api.OpFun, "f", params(), n(api.OpGen, x, x)),
		n(api.OpBind, x, x), n(api.OpBind, n(api.OpTuple, x, x)), n(api.OpBind, n(api.OpWild), x, x), s(api.OpBind, "f", n(api.OpWild), x),
		s(api.OpSig, "f"), s(api.OpSig, "f", class), s(api.OpSig, "f", v, v), s(api.OpSig, "f", v, class), s(api.OpSig, "f", x), s(api.OpSig, "f", s(api.OpClass, "Eq", s(api.OpTypeName, "A")), v), s(api.OpSig, "f", s(api.OpClass, "Eq"), v), s(api.OpSig, "f", s(api.OpClass, "Eq", v, v), v),
		s(api.OpData, "T"), s(api.OpData, "T", x), con, s(api.OpData, "T", s(api.OpCon, "A", times(9, x)...)), s(api.OpData, "T", s(api.OpCon, "A", con)),
		s(api.OpNametype, "T"), s(api.OpNametype, "T", x, x), s(api.OpNametype, "T", v), n(api.OpChannel), num(api.OpChannel, 1), num(api.OpChannel, 1, x), n(api.OpChannel, x, num(api.OpInt, 1)), num(api.OpChannel, 1, num(api.OpInt, 1), x),
		s(api.OpModule, "M", params()), s(api.OpModule, "M", block), s(api.OpModule, "M", block, block), s(api.OpModule, "M", params(), block, block, block), s(api.OpModule, "M", params(times(9, x)...), block), s(api.OpModule, "M", params(num(api.OpInt, 1)), block), s(api.OpModule, "M", params(), fun), s(api.OpModule, "M", params(), n(api.OpBlock)),
		s(api.OpInstance, "I", x), s(api.OpInstance, "I", params()), s(api.OpInstance, "I", x, params(times(9, x)...)), s(api.OpInstance, "I", x, x), n(api.OpTimed, x), n(api.OpTimed, block), n(api.OpTimed, x, fun), n(api.OpTimed, x, block, block),
		num(api.OpRefine, 1, x), num(api.OpRefine, 1, x, x, x), num(api.OpCheck, 1), num(api.OpCheck, 1, x, x), num(api.OpTrace, 1, x), num(api.OpRefine, 1, x, v), class, v, x, params(), block,
	} {
		wantValid(t, with(decl), i < 15)
	}
}

func TestValidChecksListsOfExpressions(t *testing.T) {
	x, pair := name("x"), n(api.OpPair, name("x"), name("x"))
	gen, in, out := n(api.OpGen, x, x), n(api.OpInput, x, x), n(api.OpOutput, x)
	block := n(api.OpBlock, s(api.OpFun, "f", params(), x))
	for i, e := range []node{
		n(api.OpMap, times(9, pair)...), n(api.OpLet, block, x), n(api.OpLambda, params(times(9, x)...), x), n(api.OpSeqComp, x, params(gen, x, gen)), n(api.OpSetComp, x, params(x)), n(api.OpEvComp, x, params(times(9, gen)...)), n(api.OpRename, x, params(times(9, pair)...)),
		n(api.OpRename, x, params(pair, gen, x, gen)), n(api.OpLink, x, params(times(9, pair)...), x), n(api.OpPrefix, append(append([]node{x}, times(8, in)...), x)...), n(api.OpPrefix, x, out, n(api.OpSome, x), n(api.OpSome, x, x), n(api.OpInput, x), x),
		// those that are not valid
		n(api.OpMap, x), n(api.OpMap, n(api.OpPair, x)), n(api.OpMap, n(api.OpPair, x, x, x)), n(api.OpMap, gen), n(api.OpLet, block), n(api.OpLet, x, x), n(api.OpLet, block, x, x), n(api.OpLet, block, block), n(api.OpLet, n(api.OpBlock), x), n(api.OpLet, n(api.OpBlock, x), x), n(api.OpLet, n(api.OpProgram, s(api.OpFun, "f", params(), x)), x),
		n(api.OpLambda, params(), x), n(api.OpLambda, x, x), n(api.OpLambda, params(x)), n(api.OpLambda, params(gen), x), n(api.OpSeqComp, x), n(api.OpSeqComp, x, params()), n(api.OpSeqComp, params(gen), x), n(api.OpSeqComp, x, gen), n(api.OpSetComp, x, params(pair)), n(api.OpEvComp, x, params(gen), x), n(api.OpSetComp, x, params(in)),
		n(api.OpRename, x, params()), n(api.OpRename, x, params(gen)), n(api.OpRename, x, params(gen, pair)), n(api.OpRename, x, params(pair, gen, pair)), n(api.OpRename, params(pair)), n(api.OpRename, x, pair), n(api.OpRename, x, params(pair), x),
		n(api.OpLink, x, params(), x), n(api.OpLink, x, params(pair)), n(api.OpLink, x, params(pair, gen), x), n(api.OpLink, x, params(x), x), n(api.OpLink, x, x, x), n(api.OpLink, x, pair, x),
		n(api.OpPrefix, append(append([]node{x}, times(9, in)...), x)...), n(api.OpPrefix, in, x), n(api.OpPrefix, x, in), n(api.OpPrefix, x, x, x), n(api.OpPrefix, x, gen, x), n(api.OpPrefix, x, n(api.OpInput), x), n(api.OpPrefix, x, n(api.OpInput, x, x, x), x), n(api.OpPrefix, x, n(api.OpOutput), x), n(api.OpPrefix, x, n(api.OpOutput, x, x), x), n(api.OpPrefix, x, n(api.OpSome, x, x, x), x),
		in, out, gen, pair, block, params(), n(api.OpSetComp, x, params(n(api.OpGen, x))), n(api.OpSetComp, x, params(n(api.OpGen, x, x, x))), n(api.OpSetComp, x, params(n(api.OpGen, n(api.OpNot, x), x))), n(api.OpTuple, x, params()), n(api.OpApply, params()), n(api.OpSeq, gen), n(api.OpSet, pair),
	} {
		wantValid(t, withExpr(e), i < 11)
	}
}

func TestValidChecksTypes(t *testing.T) {
	a, x := s(api.OpTypeVar, "a"), name("x")
	tuple := n(api.OpTypeTuple, a, a)
	for i, e := range []node{
		n(api.OpTypeSeq, a), n(api.OpTypeSet, a), n(api.OpTypeMap, a, a), n(api.OpTypeTuple, times(8, a)...), n(api.OpTypeFun, a, a), n(api.OpTypeFun, times(9, a)...), n(api.OpTypeFun, a, tuple), n(api.OpTypeFun, tuple, a, a), n(api.OpTypeFun, n(api.OpTypeFun, a, a, a), a), n(api.OpTypeDot, tuple, n(api.OpTypeFun, a, a)), n(api.OpTypeExt, n(api.OpTypeExt, a, a), n(api.OpTypeFun, a, a)), n(api.OpTypeFun, n(api.OpTypeExt, a, a), a), n(api.OpTypeMap, n(api.OpTypeFun, a, a), n(api.OpTypeFun, a, a)),
		// those that are not valid
		n(api.OpTypeSeq), n(api.OpTypeSeq, a, a), n(api.OpTypeSet), n(api.OpTypeMap, a), n(api.OpTypeMap, a, a, a), n(api.OpTypeTuple), n(api.OpTypeTuple, a), n(api.OpTypeTuple, times(9, a)...), n(api.OpTypeFun), n(api.OpTypeFun, a), n(api.OpTypeFun, times(10, a)...), n(api.OpTypeFun, tuple, a), n(api.OpTypeDot, a), n(api.OpTypeDot, a, a, a), n(api.OpTypeExt, a), n(api.OpTypeExt, a, a, a), n(api.OpTypeSeq, x), n(api.OpTypeDot, a, x), n(api.OpTypeFun, x, a), s(api.OpTypeVar, "a", a), s(api.OpTypeName, "A", a), s(api.OpClass, "Eq", a), x, n(api.OpTypeSeq, s(api.OpClass, "Eq", a)),
	} {
		wantValid(t, withType(e), i < 13)
	}
}

func TestValidChecksDots(t *testing.T) {
	for _, c := range []struct {
		op    int
		leaf  node
		place func(node) []api.Node
	}{{api.OpDot, name("x"), withExpr}, {api.OpTypeDot, s(api.OpTypeVar, "a"), withType}} {
		left, right := c.leaf, c.leaf
		for parts := 2; parts < 12; parts++ {
			left, right = n(c.op, left, c.leaf), n(c.op, c.leaf, right)
			wantValid(t, c.place(left), parts <= api.MaxArity)
			wantValid(t, c.place(right), true)
			wantValid(t, c.place(n(c.op, left, left)), parts < api.MaxArity)
		}
	}
	left := name("x")
	for range api.MaxArity {
		left = n(api.OpDot, left, name("x"))
	}
	for _, p := range withPattern(left) {
		wantValid(t, p, false)
	}
}

func TestValidChecksPatterns(t *testing.T) {
	x, one, seq := name("x"), num(api.OpInt, 1), n(api.OpSeq, name("x"))
	wild, long := n(api.OpWild), name("M::x")
	cat := func(l, r node) node { return n(api.OpCat, l, r) }
	for i, e := range []node{
		wild, one, n(api.OpNeg, one), n(api.OpTrue), n(api.OpFalse), n(api.OpTuple, x, one), n(api.OpSeq), seq, n(api.OpSeq, one, seq), n(api.OpSet), n(api.OpSet, seq), n(api.OpDot, x, n(api.OpDot, x, one)), n(api.OpBoth, x, n(api.OpTuple, x, wild)),
		cat(seq, x), cat(wild, seq), cat(seq, seq), cat(cat(seq, x), seq), cat(seq, cat(wild, seq)), cat(cat(seq, seq), cat(x, seq)),
		// those that are not patterns
		long, n(api.OpNeg, x), n(api.OpNeg, n(api.OpNeg, one)), n(api.OpLen, x), n(api.OpSet, x, x), n(api.OpSet, long), n(api.OpTuple, x, long), n(api.OpSeq, n(api.OpAdd, x, one)), n(api.OpDot, x, n(api.OpNot, x)), n(api.OpBoth, x, n(api.OpStop)), n(api.OpStop), n(api.OpMap), n(api.OpEvents), n(api.OpAdd, x, one), n(api.OpSeqFrom, x), n(api.OpApply, x), n(api.OpPrefix, x, x), n(api.OpIf, x, x, x),
		cat(x, x), cat(x, wild), cat(wild, wild), cat(seq, one), cat(seq, long), cat(long, seq), cat(cat(x, seq), wild), cat(cat(x, seq), cat(seq, x)), cat(x, cat(seq, x)), cat(seq, n(api.OpTuple, x, x)), cat(seq, n(api.OpBoth, x, seq)), cat(seq, n(api.OpSeq, long)), cat(seq, n(api.OpDot, x, x)),
	} {
		for _, p := range withPattern(e) {
			wantValid(t, p, i < 19)
		}
	}
	for i, p := range withPattern(x) {
		wantValid(t, p, i < 5)
	}
}

func TestValidLimitsTrees(t *testing.T) {
	x := name("x")
	for range api.MaxNest - 3 {
		x = n(api.OpNot, x)
	}
	wantValid(t, withExpr(x), true)
	p := withExpr(n(api.OpNot, x))
	if syntax.Valid(p) || syntax.Format(p) != "" || syntax.End(p, 0) != 0 {
		t.Error("a tree that is too deep is valid")
	}
	wantValid(t, withExpr(n(api.OpSet, times(api.MaxNodes-4, name("x"))...)), true)
	p = withExpr(n(api.OpSet, times(api.MaxNodes-3, name("x"))...))
	if syntax.Valid(p) || syntax.Format(p) != "" || syntax.End(p, 0) != 0 {
		t.Error("a tree that is too large is valid")
	}
	const many = 1 << 20
	p = slices.Repeat([]api.Node{{Op: api.OpNot, Kids: 1}}, many)
	if syntax.Valid(p) {
		t.Error("a very deep tree is valid")
	}
}

func TestEqualComparesAllButPositions(t *testing.T) {
	p := source(t, "f(x) = x + 1")
	q := source(t, "f(x)=\n  x+1")
	if !syntax.Equal(p, q) || slices.Equal(p, q) {
		t.Error("trees that differ in positions are not equal")
	}
	for i := range p {
		for k, x := range []api.Node{p[i], p[i], p[i], p[i]} {
			q := slices.Clone(p)
			switch k {
			case 0:
				x.Op++
			case 1:
				x.Int++
			case 2:
				x.Str += "y"
			case 3:
				x.Kids++
			}
			q[i] = x
			if syntax.Equal(p, q) || syntax.Equal(q, p) {
				t.Errorf("%v is equal to %v", q, p)
			}
			if !syntax.Equal(q, q) {
				t.Errorf("%v is not equal to itself", q)
			}
		}
		if syntax.Equal(p, p[:i]) || syntax.Equal(p[:i], p) {
			t.Errorf("%v is equal to its part", p)
		}
	}
	if !syntax.Equal(nil, []api.Node{}) || !syntax.Equal(nil, nil) || syntax.Equal(nil, p) {
		t.Error("empty lists")
	}
}

func TestChildrenAndEnd(t *testing.T) {
	p := source(t, "f(x) = x + 1\ng = {}")
	wantKids := [][]int{{1, 7}, {2, 4}, {3}, nil, {5, 6}, nil, nil, {8, 9}, nil, nil}
	wantEnds := []int{10, 7, 4, 4, 7, 6, 7, 10, 9, 10}
	if len(p) != len(wantEnds) {
		t.Fatalf("%d nodes", len(p))
	}
	for i := range p {
		if got := syntax.Children(p, i); !slices.Equal(got, wantKids[i]) {
			t.Errorf("Children(%d) = %v, want %v", i, got, wantKids[i])
		}
		if got := syntax.End(p, i); got != wantEnds[i] {
			t.Errorf("End(%d) = %d, want %d", i, got, wantEnds[i])
		}
	}
	for _, i := range []int{-1, len(p), math.MinInt, math.MaxInt} {
		if l, end := syntax.Children(p, i), syntax.End(p, i); len(l) != 0 || end != 0 {
			t.Errorf("node %d: %v, %d", i, l, end)
		}
	}
	if len(syntax.Children(nil, 0)) != 0 || syntax.End(nil, 0) != 0 {
		t.Error("the empty list has nodes")
	}
}

func TestFunctionsLeaveTheirArguments(t *testing.T) {
	l := laidOut(t, "f(x) = let y = x within {x, y}")
	before := slices.Clone(l)
	p, _, _ := syntax.Parse(l)
	nodes := slices.Clone(p)
	syntax.Format(p)
	syntax.Children(p, 0)[0] = 7
	syntax.Equal(p, p)
	if !slices.Equal(l, before) || !slices.Equal(p, nodes) {
		t.Errorf("%v, %v", l, p)
	}
}
