package core_test

import "testing"

// wantExpression checks the code of an expression in a function, behind declarations that give names to use: f has 1 parameter, which is in slot 1.
func wantExpression(t *testing.T, expression, want string) {
	t.Helper()
	wantBody(t, lines("f(x) = "+expression, "channel a, b", "channel c : {0}.{0}", "datatype T = A | B.{0}", "nametype N = {0}", "g(x, y) = 1", "k = 1", "P = STOP", "Q(x) = STOP"), "clause(tuple(v "+want+"))")
}

// P13.1: expressions that are no processes.
func TestExpressions(t *testing.T) {
	for expression, want := range map[string]string{
		"7":                  "i7",
		"-1":                 "neg(i1)",
		"true":               "b1",
		"false":              "b0",
		"(1, x, true)":       "tuple(i1 s1 b1)",
		"<>":                 "seq",
		"<1, x>":             "seq(i1 s1)",
		"{}":                 "set",
		"{x}":                "set(s1)",
		"{||}":               "events",
		"{|a, c.0|}":         "events(n0 dot(n2 i0))",
		"(| |)":              "map",
		"(|1 => x, 2 => 3|)": "map(i1 s1 i2 i3)",
		"<x ..>":             "from(s1)",
		"<1 .. x>":           "to4(i1 s1)",
		"{1 .. x}":           "to5(i1 s1)",
		"c.0.x":              "dot(dot(n2 i0) s1)",
		"<1>^<x>":            "^(seq(i1) seq(s1))",
		"#<x>":               "#(seq(s1))",
		"1 + x":              "+(i1 s1)",
		"1 - x":              "-(i1 s1)",
		"1 * x":              "*(i1 s1)",
		"1 / x":              "/(i1 s1)",
		"1 % x":              "%(i1 s1)",
		"1 == x":             "==(i1 s1)",
		"1 != x":             "not(==(i1 s1))",
		"1 < x":              "<(i1 s1)",
		"1 > x":              "<(s1 i1)",
		"1 <= x":             "not(<(s1 i1))",
		"1 >= x":             "not(<(i1 s1))",
		"not true":           "not(b1)",
		"true and x":         "if(b1 s1 b0)",
		"true or x":          "if(b1 b1 s1)",
		"if x then 1 else 2": "if(s1 i1 i2)",
		"x @@ 1":             "s1",
		"(x, A, B.0)":        "tuple(s1 n3 dot(n4 i0))",
	} {
		wantExpression(t, expression, want)
	}
}

// P13.1: names of each kind.
func TestNames(t *testing.T) {
	for expression, want := range map[string]string{
		"x":      "s1",
		"a":      "n0",
		"b":      "n1",
		"c":      "n2",
		"A":      "n3",
		"B":      "n4",
		"T":      "data0",
		"N":      "call4",
		"g":      "fun5",
		"k":      "call6",
		"P":      "proc7",
		"Q":      "fun8",
		"Events": "Events",
		"Bool":   "set(b0 b1)",
		"Int":    "Ints",
		"card":   "fun9",
	} {
		wantExpression(t, expression, want)
	}
}

// P13.1: calls of functions with as many arguments as they have parameters, and of other things.
func TestCalls(t *testing.T) {
	for expression, want := range map[string]string{
		"g(1, x)":                       "call5(i1 s1)",
		"Q(x)":                          "proc8(s1)",
		"f(g(k, x))":                    "call0(call5(call6 s1))",
		"(g)(1, 2)":                     "call5(i1 i2)",
		"x(1, 2)":                       "apply(s1 i1 i2)",
		"x()":                           "apply(s1)",
		"(if true then g else g)(1, 2)": "apply(if(b1 fun5 fun5) i1 i2)",
		"(\\ y @ y)(1)":                 "apply(fun9 i1)",
		"head(<g>)(1, 2)":               "apply(head(seq(fun5)) i1 i2)",
		"head(x)()":                     "apply(head(s1))",
	} {
		wantExpression(t, expression, want)
	}
	wantFuncs(t, lines("h(x) = k()", "k = k"), "h/1: clause(tuple(v call1))", "k/0: call1")
	wantFuncs(t, lines("h = k(1)", "k = head(<>)"), "h/0: apply(call1 i1)", "k/0: head(seq)")
}

// P13.1: the builtins with parameters, which become primitives where they have all arguments, and functions elsewhere.
func TestBuiltins(t *testing.T) {
	for call, want := range map[string]string{
		"union({1}, {2})":        "union(set(i1) set(i2))",
		"inter({1}, {2})":        "inter(set(i1) set(i2))",
		"diff({1}, {2})":         "diff(set(i1) set(i2))",
		"Union({{1}})":           "Union(set(set(i1)))",
		"Inter({{1}})":           "Inter(set(set(i1)))",
		"member(1, {2})":         "member(i1 set(i2))",
		"card({1})":              "card(set(i1))",
		"empty({1})":             "empty(set(i1))",
		"set(<1>)":               "setof(seq(i1))",
		"seq({1})":               "seqof(set(i1))",
		"Set({1})":               "Set(set(i1))",
		"head(<1>)":              "head(seq(i1))",
		"tail(<1>)":              "tail(seq(i1))",
		"null(<1>)":              "null(seq(i1))",
		"elem(1, <2>)":           "elem(i1 seq(i2))",
		"length(<1>)":            "#(seq(i1))",
		"concat(<<1>>)":          "concat(seq(seq(i1)))",
		"mapLookup((| |), 1)":    "lookup(map i1)",
		"mapMember((| |), 1)":    "haskey(map i1)",
		"mapUpdate((| |), 1, 2)": "update(map i1 i2)",
		"mapDelete((| |), 1)":    "delete(map i1)",
		"mapKeys((|1 => 2|))":    "keys(map(i1 i2))",
	} {
		wantExpression(t, call, want)
	}
	for builtin, want := range map[string]string{
		"union": "union/2: union(s0 s1)", "inter": "inter/2: inter(s0 s1)", "diff": "diff/2: diff(s0 s1)", "Union": "Union/1: Union(s0)", "Inter": "Inter/1: Inter(s0)",
		"member": "member/2: member(s0 s1)", "card": "card/1: card(s0)", "empty": "empty/1: empty(s0)", "set": "set/1: setof(s0)", "seq": "seq/1: seqof(s0)", "Set": "Set/1: Set(s0)",
		"head": "head/1: head(s0)", "tail": "tail/1: tail(s0)", "null": "null/1: null(s0)", "elem": "elem/2: elem(s0 s1)", "length": "length/1: #(s0)", "concat": "concat/1: concat(s0)",
		"mapLookup": "mapLookup/2: lookup(s0 s1)", "mapMember": "mapMember/2: haskey(s0 s1)", "mapUpdate": "mapUpdate/3: update(s0 s1 s2)", "mapDelete": "mapDelete/2: delete(s0 s1)", "mapKeys": "mapKeys/1: keys(s0)",
	} {
		wantFuncs(t, "f = "+builtin, "f/0: fun1", want)
		wantFuncs(t, lines("f = <"+builtin+", g, "+builtin+">", "g = "+builtin), "f/0: seq(fun2 call1 fun2)", "g/0: fun2", want)
		wantHeads(t, "f = "+builtin, "f/0 1:1", want[:len(builtin)+2]+" 0:0")
	}
}

// P13.1: comprehensions. The variables of a generator are visible behind it.
func TestComprehensions(t *testing.T) {
	for expression, want := range map[string]string{
		"<y | y <- x>":   "comp4(gen(v s1) s2)",
		"{y | y <- x}":   "comp5(gen(v s1) s2)",
		"{|y | y <- x|}": "events(comp5(gen(v s1) s2))",
		"<(x, y, z) | y : x, true, z <- y, #y == 1>": "comp4(gen(v s1) cond(b1) gen(v s2) cond(==(#(s2) i1)) tuple(s1 s2 s3))",
		"{x | true}":                            "comp5(cond(b1) s1)",
		"<(y, z) | (y, _) <- x, (_, z) <- <y>>": "comp4(gen(TUPLE(v _) s1) gen(TUPLE(_ v) seq(s2)) tuple(s2 s3))",
		"(<y | y <- <1>>, <y | y <- <2>>)":      "tuple(comp4(gen(v seq(i1)) s2) comp4(gen(v seq(i2)) s2))",
		"<<(y, z) | z <- y> | y <- x>":          "comp4(gen(v s1) comp4(gen(v s2) tuple(s2 s3)))",
		"<z | y <- x, z <- <u | u <- y>>":       "comp4(gen(v s1) gen(v comp4(gen(v s2) s3)) s3)",
	} {
		wantExpression(t, expression, want)
	}
}

// P13.1: the operators of processes.
func TestProcesses(t *testing.T) {
	for expression, want := range map[string]string{
		"STOP":                     "STOP",
		"SKIP":                     "SKIP",
		"DIV":                      "DIV",
		"P [] x":                   "extern(proc7 s1)",
		"P |~| x":                  "intern(proc7 s1)",
		"P ; x":                    "sequence(proc7 s1)",
		"P /\\ x":                  "interrupt(proc7 s1)",
		"P [> x":                   "slide(proc7 s1)",
		"P ||| x":                  "parallel(proc7 set s1)",
		"P [| {a} |> x":            "throw(proc7 set(n0) s1)",
		"P [+ {a} +] x":            "sync(proc7 set(n0) s1)",
		"P [| {a} |] x":            "parallel(proc7 set(n0) s1)",
		"P [ {a} || {b} ] x":       "alpha(proc7 set(n0) set(n1) s1)",
		"P \\ x":                   "hide(proc7 s1)",
		"prioritise(P, {(a, b)})":  "prior(proc7 set(tuple(n0 n1)))",
		"chase(P)":                 "chase(proc7)",
		"x & P":                    "if(s1 proc7 STOP)",
		"P [a <-> b, x <-> a] DIV": "link(proc7 pair(n0 n1) pair(s1 n0) DIV)",
		"P[[a <- b, x <- a]]":      "rename(proc7 pair(n0 n1) pair(s1 n0))",
		"P[[c.y.z <- a, x <- x | y <- {0}, true, z : {y}]]": "rename(proc7 gen(v set(i0)) cond(b1) gen(v set(s2)) pair(dot(dot(n2 s2) s3) n0) pair(s1 s1))",
	} {
		wantExpression(t, expression, want)
	}
}

// P13.1: replicated operators.
func TestReplicatedProcesses(t *testing.T) {
	for expression, want := range map[string]string{
		"[] y : {x}, true @ Q(y)":                 "repeat.extern(gen(v set(s1)) cond(b1) proc8(s2))",
		"|~| y : {x} @ Q(y)":                      "repeat.intern(gen(v set(s1)) proc8(s2))",
		"; y <- <x> @ Q(y)":                       "repeat.sequence(gen(v seq(s1)) proc8(s2))",
		"||| y : {x} @ Q(y)":                      "repeat.parallel(set gen(v set(s1)) proc8(s2))",
		"[| {a} |] y : {x} @ Q(y)":                "repeat.parallel(set(n0) gen(v set(s1)) proc8(s2))",
		"[+ {a} +] y : {x}, z : {y} @ Q(z)":       "repeat.sync(set(n0) gen(v set(s1)) gen(v set(s2)) proc8(s3))",
		"|| y : {x} @ [{|c.y|}] Q(y)":             "repeat.alpha(gen(v set(s1)) events(dot(n2 s2)) proc8(s2))",
		"([] y : {x} @ P) [] ([] y : {x} @ Q(y))": "extern(repeat.extern(gen(v set(s1)) proc7) repeat.extern(gen(v set(s1)) proc8(s2)))",
	} {
		wantExpression(t, expression, want)
	}
}

// P13.1: prefixes. A field's variables are visible behind it, but not in its own set.
func TestPrefixes(t *testing.T) {
	for expression, want := range map[string]string{
		"a -> STOP":          "prefix(n0 STOP)",
		"a -> SKIP":          "prefix(n0 SKIP)",
		"a -> P":             "prefix(n0 proc7)",
		"x -> P":             "prefix(s1 proc7)",
		"c?y?z -> P":         "prefix(n2 in(v) in(v) proc7)",
		"c?y:{x}?z:{y} -> P": "prefix(n2 in(v set(s1)) in(v set(s2)) proc7)",
		"c$y:{x}$_ -> P":     "prefix(n2 some(v set(s1)) some(_) proc7)",
		"c!x!0 -> P":         "prefix(n2 out(s1) out(i0) proc7)",
		"c.x?y -> P":         "prefix(dot(n2 s1) in(v) proc7)",
		"c?y!y -> P":         "prefix(n2 in(v) out(s2) proc7)",
		"a -> DIV":           "prefix(n0 proc9)",
		"c?y?z -> Q(x)":      "prefix(n2 in(v) in(v) proc9(s1))",
		"c?y?z -> Q(z)":      "prefix(n2 in(v) in(v) proc9(s3))",
		"a -> x":             "prefix(n0 proc9(s1))",
		"a -> b -> P":        "prefix(n0 proc9)",
	} {
		wantExpression(t, expression, want)
	}
}
