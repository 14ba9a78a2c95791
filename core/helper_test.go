package core_test

import (
	"fmt"
	"slices"
	"strconv"
	"strings"
	"testing"

	"cspcheck/api"
	"cspcheck/core"
	"cspcheck/infer"
	"cspcheck/modules"
	"cspcheck/scope"
	"cspcheck/syntax"
	"cspcheck/timed"
)

type code = []api.Code

// lines joins the lines of a source.
func lines(l ...string) string {
	return strings.Join(l, "\n")
}

// many joins copies of a text, in which # is replaced by their numbers.
func many(n int, text, between string) string {
	var l []string
	for k := range n {
		l = append(l, strings.ReplaceAll(text, "#", strconv.Itoa(k)))
	}
	return strings.Join(l, between)
}

// inferred returns the resolved tree of a source without errors, its symbols and their types.
func inferred(t *testing.T, src string) ([]api.Node, []api.Symbol, []api.Scheme) {
	t.Helper()
	p, pos, e := syntax.Source(src)
	if e == api.OK {
		p, pos, e = modules.Expand(p)
	}
	if e == api.OK {
		p, pos, e = timed.Translate(p)
	}
	var s []api.Symbol
	if e == api.OK {
		p, s, pos, e = scope.Resolve(p)
	}
	var types []api.Scheme
	if e == api.OK {
		types, pos, e = infer.Infer(p, s)
	}
	if e != api.OK {
		t.Fatalf("%.1000s\nhas error %d at %v", src, e, pos)
	}
	return p, s, types
}

// lower returns the result of Lower. It checks that the arguments have not changed, that a core is valid and has the size of its bodies, and that there is none together with an error.
func lower(t *testing.T, p []api.Node, s []api.Symbol, types []api.Scheme) (api.Core, api.Errno) {
	t.Helper()
	oldP, oldS, oldTypes := slices.Clone(p), slices.Clone(s), fmt.Sprint(types)
	c, e := core.Lower(p, s, types)
	if !slices.Equal(p, oldP) || !slices.Equal(s, oldS) || fmt.Sprint(types) != oldTypes {
		t.Errorf("Lower changed its arguments")
	}
	if e != api.OK {
		if len(c.Funcs) > 0 || len(c.Names) > 0 || len(c.Asserts) > 0 || len(c.Events) > 0 {
			t.Errorf("Lower returns error %d and a core", e)
		}
		return c, e
	}
	size := 0
	for _, f := range c.Funcs {
		size += len(f.Body)
	}
	if !core.Valid(c) || core.Size(c) != size || len(c.Events) > 0 {
		t.Errorf("Valid of a core of %d nodes and %d events = %v, Size = %d", size, len(c.Events), core.Valid(c), core.Size(c))
	}
	return c, api.OK
}

// lowered returns the core of a source without errors. It checks that Source returns it, too.
func lowered(t *testing.T, src string) api.Core {
	t.Helper()
	p, s, types := inferred(t, src)
	c, e := lower(t, p, s, types)
	if e != api.OK {
		t.Fatalf("Lower of\n%.1000s\nreturns error %d", src, e)
	}
	if d, pos, e := core.Source(src); e != api.OK || pos != (api.Pos{}) || printed(d) != printed(c) {
		t.Errorf("Source(%.1000s) returns error %d at %v, or another core than Lower", src, e, pos)
	}
	return c
}

// printed writes all of a core, where empty and nil lists look the same.
func printed(c api.Core) string {
	return fmt.Sprintf("%+v", c)
}

// operators are the texts of the nodes of code, before their Ints.
var operators = map[int]string{
	api.CodeSlot: "s", api.CodeInt: "i", api.CodeBool: "b", api.CodeName: "n", api.CodeFun: "fun", api.CodeCall: "call", api.CodeProc: "proc", api.CodeApply: "apply",
	api.CodeTuple: "tuple", api.CodeSeq: "seq", api.CodeSet: "set", api.CodeMap: "map", api.CodeDot: "dot", api.CodeFrom: "from", api.CodeTo: "to", api.CodeIf: "if",
	api.CodeLet: "let", api.CodeSelect: "select", api.CodeClause: "clause", api.CodeComp: "comp", api.CodeGen: "gen", api.CodeCond: "cond", api.CodeEvents: "events", api.CodeData: "data",
	api.PatVar: "v", api.PatWild: "_", api.PatInt: "I", api.PatBool: "B", api.PatTuple: "TUPLE", api.PatSeq: "SEQ", api.PatCat: "CAT", api.PatSet: "SET", api.PatDot: "DOT", api.PatPair: "PAIR", api.PatBoth: "BOTH",
	api.CodePrefix: "prefix", api.CodeIn: "in", api.CodeSome: "some", api.CodeOut: "out", api.CodeRename: "rename", api.CodePair: "pair", api.CodeLink: "link", api.CodeRepeat: "repeat",
}

// primitives are the texts of primitives.
var primitives = map[int64]string{
	api.PrimNeg: "neg", api.PrimAdd: "+", api.PrimSub: "-", api.PrimMul: "*", api.PrimDiv: "/", api.PrimMod: "%", api.PrimEq: "==", api.PrimLt: "<", api.PrimNot: "not", api.PrimCat: "^", api.PrimLen: "#",
	api.PrimHead: "head", api.PrimTail: "tail", api.PrimNull: "null", api.PrimElem: "elem", api.PrimConcat: "concat", api.PrimUnion: "union", api.PrimInter: "inter", api.PrimDiff: "diff",
	api.PrimBigUnion: "Union", api.PrimBigInter: "Inter", api.PrimMember: "member", api.PrimCard: "card", api.PrimEmpty: "empty", api.PrimSet: "setof", api.PrimSeq: "seqof", api.PrimSubsets: "Set",
	api.PrimLookup: "lookup", api.PrimHasKey: "haskey", api.PrimUpdate: "update", api.PrimDelete: "delete", api.PrimKeys: "keys", api.PrimEvents: "Events", api.PrimInts: "Ints",
}

// processes are the texts of process operators.
var processes = map[int64]string{
	api.ProcStop: "STOP", api.ProcSkip: "SKIP", api.ProcDiv: "DIV", api.ProcExtern: "extern", api.ProcIntern: "intern", api.ProcSequence: "sequence", api.ProcInterrupt: "interrupt", api.ProcSlide: "slide",
	api.ProcThrow: "throw", api.ProcSync: "sync", api.ProcHide: "hide", api.ProcParallel: "parallel", api.ProcAlpha: "alpha", api.ProcPrior: "prior", api.ProcChase: "chase",
}

// node writes a node without its children. Its Int stands behind the operator if it has a meaning.
func node(n api.Code) string {
	switch n.Op {
	case api.CodePrim:
		return primitives[n.Int]
	case api.CodeProcOp:
		return processes[n.Int]
	case api.CodeRepeat:
		return "repeat." + processes[n.Int]
	case api.CodeInt, api.CodeSlot, api.CodeBool, api.CodeName, api.CodeFun, api.CodeCall, api.CodeProc, api.CodeTo, api.CodeLet, api.CodeComp, api.CodeData, api.PatInt, api.PatBool, api.PatCat, api.PatDot:
		return operators[n.Op] + strconv.FormatInt(n.Int, 10)
	}
	if n.Int != 0 {
		return operators[n.Op] + "?" + strconv.FormatInt(n.Int, 10)
	}
	return operators[n.Op]
}

// show writes a body: each node with its children in parentheses.
func show(l code) string {
	var text strings.Builder
	var open []int // for each node around, how many children are missing
	for i, n := range l {
		if i > 0 && text.String()[text.Len()-1] != '(' {
			text.WriteString(" ")
		}
		text.WriteString(node(n))
		if n.Kids > 0 {
			text.WriteString("(")
			open = append(open, n.Kids)
			continue
		}
		for len(open) > 0 {
			open[len(open)-1]--
			if open[len(open)-1] > 0 {
				break
			}
			open = open[:len(open)-1]
			text.WriteString(")")
		}
	}
	return text.String()
}

// head writes what a function is apart from its body and position: its name, its arity, and P if it is a process function.
func head(f api.Func) string {
	text := f.Name + "/" + strconv.Itoa(f.Arity)
	if f.Proc {
		text += "P"
	}
	return text
}

// wantFuncs checks the functions of the core of a source. Each wanted one is its head, a colon, and its body.
func wantFuncs(t *testing.T, src string, want ...string) {
	t.Helper()
	var got []string
	for _, f := range lowered(t, src).Funcs {
		got = append(got, head(f)+": "+show(f.Body))
	}
	if !slices.Equal(got, want) {
		t.Errorf("%s\nhas the functions\n%s\nwant\n%s", src, lines(got...), lines(want...))
	}
}

// wantHeads checks the heads and positions of the functions of the core of a source.
func wantHeads(t *testing.T, src string, want ...string) {
	t.Helper()
	var got []string
	for _, f := range lowered(t, src).Funcs {
		got = append(got, fmt.Sprintf("%s %d:%d", head(f), f.Pos.Line, f.Pos.Col))
	}
	if !slices.Equal(got, want) {
		t.Errorf("%s\nhas the functions\n%s\nwant\n%s", src, lines(got...), lines(want...))
	}
}

// wantBody checks the body of the first function of the core of a source.
func wantBody(t *testing.T, src, want string) {
	t.Helper()
	if got := show(lowered(t, src).Funcs[0].Body); got != want {
		t.Errorf("%s\nhas the body %s, want %s", src, got, want)
	}
}

// wantError checks the error of Source, and its position.
func wantError(t *testing.T, src string, pos api.Pos, want api.Errno) {
	t.Helper()
	c, at, e := core.Source(src)
	if e != want || at != pos {
		t.Errorf("Source(%.1000s) returns error %d at %v, want error %d at %v", src, e, at, want, pos)
	}
	if printed(c) != printed(api.Core{}) {
		t.Errorf("Source(%.1000s) returns an error and a core", src)
	}
}
