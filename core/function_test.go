package core_test

import (
	"testing"

	"cspcheck/api"
)

// The Examples of the chapter.
func TestExamples(t *testing.T) {
	wantFuncs(t, lines("channel a", "P = a -> P"), "P/0P: prefix(n0 proc0)")
	wantFuncs(t, "f(x) = \\ y @ x + y", "f/1: clause(tuple(v fun1(s1)))", "/2: clause(tuple(v +(s0 s2)))")
}

// P13.1: the functions of declarations, in their order, with their names and positions.
func TestFunctionsOfDeclarations(t *testing.T) {
	wantHeads(t, lines(
		"g(1) = 1",
		"g(x) = 2",
		"  ",
		"g :: (Int) -> Int",
		"datatype T = A | B.{0}.N | C.{1}",
		"nametype N = {2}",
		"channel a",
		"channel c, d : {1}.N.T",
		"(x, <P>) = (1, <STOP>)",
		"(1, _) = (1, 2)",
		"assert P [T= STOP",
		"assert not P :[deadlock free]",
		"assert P :[has trace]: <a>",
		"h = 1",
	),
		"g/1 1:1",
		"/0 5:20", "/0 5:24", "/0 5:30",
		"N/0 6:1",
		"/0 8:16", "/0 8:20", "/0 8:22",
		"/0 9:1", "x/0 9:2", "P/0P 9:6",
		"/0 10:1",
		"/0P 11:1", "/0P 11:1",
		"/0P 12:1",
		"/0P 13:1", "/0 13:1",
		"h/0 14:1",
	)
}

// P13.1: the bodies of the functions of declarations.
func TestBodiesOfDeclarations(t *testing.T) {
	wantFuncs(t, lines("datatype T = A | B.{0}.(N)", "nametype N = {2}", "channel c : {1}.N.({3}).T"), "/0: set(i0)", "/0: call2", "N/0: set(i2)", "/0: set(i1)", "/0: call2", "/0: set(i3)", "/0: data0")
	wantFuncs(t, "(x, <P>) = (1, <STOP>)", "/0: tuple(i1 seq(STOP))", "x/0: select(call0 TUPLE(v SEQ(v)) s0)", "P/0P: select(call0 TUPLE(v SEQ(v)) s1)")
	wantFuncs(t, lines("1 = x", "(x, _) = (2, P)", "(P @@ Q) = STOP"), "/0: call2", "/0: tuple(i2 proc4)", "x/0: select(call1 TUPLE(v _) s0)", "/0: STOP", "P/0P: select(call3 BOTH(v v) s0)", "Q/0P: select(call3 BOTH(v v) s1)")
	wantFuncs(t, lines("channel a", "assert STOP [FD= SKIP", "assert P :[has trace]: <a>", "P = DIV"), "/0P: STOP", "/0P: SKIP", "/0P: proc4", "/0: seq(n0)", "P/0P: DIV")
}

// P13.1: a process function has a process as its value once it has as many arguments as parameters.
func TestProcessFunctions(t *testing.T) {
	for src, want := range map[string]string{
		"f = STOP":                            "f/0P 1:1",
		"f(x) = STOP":                         "f/1P 1:1",
		"f(x, y) = x [] y":                    "f/2P 1:1",
		"f(x) = <STOP>":                       "f/1 1:1",
		"f = <STOP>":                          "f/0 1:1",
		"f(x) = (1, STOP)":                    "f/1 1:1",
		"f(x) = x":                            "f/1 1:1",
		"f = f":                               "f/0 1:1",
		"f(x) = f(x)":                         "f/1 1:1",
		"f(x) = if true then f(x) else STOP":  "f/1P 1:1",
		"f((x, y), g) = g(x, y) ; STOP":       "f/2P 1:1",
		"f(g) = g(1)":                         "f/1 1:1",
		"f(x, <y>) = if x == y then 1 else 2": "f/2 1:1",
	} {
		wantHeads(t, src, want)
	}
	wantHeads(t, "f = \\ x @ STOP", "f/0 1:1", "/1 1:5")
	wantHeads(t, "f(x) = \\ y @ STOP", "f/1 1:1", "/1 1:8")
	wantHeads(t, lines("f(x) = y", "(y, z) = (STOP, \\ u @ STOP)"), "f/1P 1:1", "/0 2:1", "y/0P 2:2", "z/0 2:5", "/1 2:17")
	wantHeads(t, lines("f(x) = x", "f :: (Proc) -> Proc"), "f/1P 1:1")
}

// P13.1: the order in which functions are lifted: function by function, each in the preorder of its tree.
func TestOrderOfLiftedFunctions(t *testing.T) {
	wantHeads(t, lines("f = (\\ x @ \\ y @ x, \\ z @ 1)", "g = \\ u, v @ 1"), "f/0 1:1", "g/0 2:1", "/1 1:6", "/1 1:21", "/2 2:5", "/2 1:12")
	wantHeads(t, lines("f = let", "    h = \\ x @ 1", "    k(y) = \\ z, u @ 1", "    P = STOP", "    k2(y, z) = 1", "  within (P, \\ u, v, w @ h)"), "f/0 1:1", "k/1 3:5", "P/0P 4:5", "k2/2 5:5", "/1 2:9", "/4 6:14", "/2 3:12")
	wantHeads(t, lines("f(1) = \\ x @ 1", "f(2) = \\ x @ x"), "f/1 1:1", "/1 1:8", "/1 2:8")
	wantHeads(t, lines("f = let", "    g(1) = \\ x @ 1", "    g(2) = \\ x @ x", "  within g"), "f/0 1:1", "g/1 2:5", "/1 2:12", "/1 3:12")
	wantHeads(t, lines("f = let", "    (x, _) = (\\ u @ 1, 2)", "    g = \\ v @ 2", "  within x"), "f/0 1:1", "/1 2:15", "/1 3:9")
}

// P13.1: the Params of a comprehension come before its first child, the generators of a Rename before its Pairs, and otherwise the tree is in preorder, also where the code is not.
func TestOrderInsideOfExpressions(t *testing.T) {
	wantHeads(t, "f = <(\\ x @ 1) | (\\ y @ true)(1), _ <- <\\ z @ 1>>", "f/0 1:1", "/1 1:19", "/1 1:41", "/1 1:7")
	wantHeads(t, "f = {(\\ x @ 1)(1) | (\\ y @ true)(1)}", "f/0 1:1", "/1 1:22", "/1 1:7")
	wantHeads(t, lines("channel a", "f = {|(\\ x @ a)(1) | (\\ y @ true)(1)|}"), "f/0 2:1", "/1 2:23", "/1 2:8")
	wantHeads(t, lines("channel a", "f = (\\ u @ STOP)(1)[[(\\ x @ a)(1) <- a, a <- (\\ y @ a)(1) | (\\ z @ true)(1), _ <- {(\\ w @ 1)(1)}]]"), "f/0P 2:1", "/1 2:6", "/1 2:62", "/1 2:85", "/1 2:23", "/1 2:47")
	wantHeads(t, "f = (\\ x @ 1)(1) > (\\ y @ 1)(1)", "f/0 1:1", "/1 1:6", "/1 1:21")
	wantHeads(t, "f = (\\ x @ 1)(1) <= (\\ y @ 1)(1)", "f/0 1:1", "/1 1:6", "/1 1:22")
	wantHeads(t, "f = || x : {(\\ u @ 1)(1)} @ [(\\ y @ {})(1)] (\\ z @ STOP)(1)", "f/0P 1:1", "/1 1:14", "/1 1:31", "/1 1:46")
	wantHeads(t, "f = [| (\\ x @ {})(1) |] _ : {(\\ y @ 1)(1)} @ (\\ z @ STOP)(1)", "f/0P 1:1", "/1 1:9", "/1 1:31", "/1 1:47")
}

// P13.1: the continuation of a Prefix is a function, unless it is STOP, SKIP or the Name of a process function of the program. It comes behind what is lifted from the event and the fields, and has the position of the Prefix.
func TestContinuations(t *testing.T) {
	channels := "channel a"
	wantHeads(t, lines(channels, "P = a -> STOP", "Q = a -> SKIP", "R = a -> P", "S = a -> (P)", "(V, _) = (a -> V, 1)"), "P/0P 2:1", "Q/0P 3:1", "R/0P 4:1", "S/0P 5:1", "/0 6:1", "V/0P 6:2")
	wantHeads(t, lines(channels, "P = a -> DIV", "Q = a -> R(P)", "R(x) = a -> x", "S = a -> y", "y = y"), "P/0P 2:1", "Q/0P 3:1", "R/1P 4:1", "S/0P 5:1", "y/0 6:1", "/0P 2:7", "/0P 3:7", "/1P 4:10", "/0P 5:7")
	wantFuncs(t, lines(channels, "P = let Q = a -> Q within a -> Q"), "P/0P: prefix(n0 proc2)", "Q/0P: prefix(n0 proc3)", "/0P: proc1", "/0P: proc1")
	wantHeads(t, lines("channel c : {0}", "P = c!((\\ x @ 0)(1)) -> (\\ y @ DIV)(1)"), "/0 1:13", "P/0P 2:1", "/1 2:9", "/0P 2:22", "/1 2:26")
	wantFuncs(t, lines("channel c : {0}", "P(x) = c?x:{x} -> c!x -> c.x -> DIV"), "/0: set(i0)", "P/1P: clause(tuple(v prefix(n0 in(v set(s1)) proc2(s2))))", "/1P: prefix(n0 out(s0) proc3(s0))", "/1P: prefix(dot(n0 s0) proc4)", "/0P: DIV")
}

// P13.1: a builtin has one function, which comes where it is used as a value for the first time.
func TestFunctionsOfBuiltins(t *testing.T) {
	wantHeads(t, lines("f = (g, card, \\ x @ x, card({1}), empty)", "g = card", "h = empty"), "f/0 1:1", "g/0 2:1", "h/0 3:1", "card/1 0:0", "/1 1:15", "empty/1 0:0")
	wantHeads(t, lines("f = \\ x @ card", "g = card"), "f/0 1:1", "g/0 2:1", "/1 1:5", "card/1 0:0")
	wantHeads(t, "f = card({1})", "f/0 1:1")
	wantFuncs(t, "f(card) = <card>", "f/1: clause(tuple(v seq(s1)))")
	wantFuncs(t, lines("f = let", "    card(x) = 1", "  within card"), "f/0: fun1", "card/1: clause(tuple(v i1))")
}

// P13.1: constructors and channels are numbered in the order of their symbols, datatypes likewise.
func TestNumbers(t *testing.T) {
	src := lines("f = (T, U, <a>, <b, c>, A, B, C)", "channel a", "datatype U = A", "channel b, c : U", "datatype T = B | C.T")
	wantFuncs(t, src, "f/0: tuple(data1 data0 seq(n0) seq(n2 n3) n1 n4 n5)", "/0: data0", "/0: data1")
	c := lowered(t, src)
	want := []api.Info{{Name: "a", Data: -1}, {Name: "A"}, {Name: "b", Data: -1, Fields: []int{1}}, {Name: "c", Data: -1, Fields: []int{1}}, {Name: "B", Data: 1}, {Name: "C", Data: 1, Fields: []int{2}}}
	if printed(api.Core{Names: c.Names}) != printed(api.Core{Names: want}) {
		t.Errorf("the names of\n%s\nare %+v, want %+v", src, c.Names, want)
	}
	c.Names[2].Fields[0] = 7
	if c.Names[3].Fields[0] != 1 {
		t.Errorf("two channels share the memory of their fields")
	}
}

// P13.1: the descriptions of assertions.
func TestAssertions(t *testing.T) {
	src := lines("channel a", "assert STOP [T= SKIP", "assert not STOP [FD= SKIP", "P = STOP", "assert P :[deterministic]", "assert not P :[divergence free]", "assert P :[has trace]: <>", "  ", "assert not P :[has trace]: <a>")
	want := []api.Assert{
		{Op: api.OpRefine, Int: api.ModelT, Left: 0, Right: 1, Pos: api.Pos{Line: 2, Col: 1}},
		{Op: api.OpRefine, Int: -api.ModelFD, Left: 2, Right: 3, Pos: api.Pos{Line: 3, Col: 1}},
		{Op: api.OpCheck, Int: api.PropDeterministic, Left: 5, Right: -1, Pos: api.Pos{Line: 5, Col: 1}},
		{Op: api.OpCheck, Int: -api.PropDivergence, Left: 6, Right: -1, Pos: api.Pos{Line: 6, Col: 1}},
		{Op: api.OpTrace, Int: 1, Left: 7, Right: 8, Pos: api.Pos{Line: 7, Col: 1}},
		{Op: api.OpTrace, Int: -1, Left: 9, Right: 10, Pos: api.Pos{Line: 9, Col: 1}},
	}
	c := lowered(t, src)
	if printed(api.Core{Asserts: c.Asserts}) != printed(api.Core{Asserts: want}) {
		t.Errorf("the assertions of\n%s\nare %+v, want %+v", src, c.Asserts, want)
	}
}
