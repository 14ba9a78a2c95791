package scope_test

import (
	"slices"
	"testing"

	"cspcheck/api"
	"cspcheck/scope"
)

func TestBuiltins(t *testing.T) {
	want := []string{
		"union builtin 2", "inter builtin 2", "diff builtin 2", "Union builtin 1", "Inter builtin 1", "member builtin 2", "card builtin 1", "empty builtin 1",
		"set builtin 1", "seq builtin 1", "Set builtin 1", "head builtin 1", "tail builtin 1", "null builtin 1", "elem builtin 2", "length builtin 1",
		"concat builtin 1", "mapLookup builtin 2", "mapMember builtin 2", "mapUpdate builtin 3", "mapDelete builtin 2", "mapKeys builtin 1",
		"Events builtin 0", "Bool builtin 0", "Int builtin 0",
	}
	var got []string
	for _, s := range scope.Builtins() {
		got = append(got, describe(s))
		if s.Node != -1 {
			t.Errorf("%s has the node %d", s.Name, s.Node)
		}
	}
	if !slices.Equal(got, want) {
		t.Errorf("Builtins() = %q, want %q", got, want)
	}
	scope.Builtins()[0].Name = "changed"
	if scope.Builtins()[0].Name != "union" {
		t.Error("results of Builtins share memory")
	}
}

func TestSymbolsOfDeclarations(t *testing.T) {
	wantSymbols(t, "assert STOP [T= STOP")
	wantSymbols(t, "f = 1", "f global 0")
	wantSymbols(t, "f(1, _, <>) = 1", "f global 3")
	wantSymbols(t, "(x, <y, _>) = 1", "x global 0", "y global 0")
	wantSymbols(t, "(_, 1) = 1")
	wantSymbols(t, "datatype T = A | B.{1}.{2}.{3}", "T data 0", "A con 0", "B con 3")
	wantSymbols(t, "nametype N = {1}", "N nametype 0")
	wantSymbols(t, "channel a, b", "a channel 0", "b channel 0")
	wantSymbols(t, "f :: Int\nf = 1", "f global 0")
}

func TestAritiesOfChannels(t *testing.T) {
	wantSymbols(t, "channel a, b : {1}", "a channel 1", "b channel 1")
	wantSymbols(t, "channel a : {1}.{2}.{3}", "a channel 3")
	wantSymbols(t, "channel a : {1}.({2}.{3})", "a channel 2")
	wantSymbols(t, "channel a : ({1}.{2}).{3}", "a channel 3")
	wantSymbols(t, "channel a : {1.2.3}", "a channel 1")
}

func TestSymbolsAreInPreorder(t *testing.T) {
	wantSymbols(t, lines(
		"datatype T = A.{x | x <- {1}} | B",
		"channel c : {y | y <- {1}}",
		"nametype N = {z | z <- {1}}",
		"f(u) = \\ v @ u",
		"(g, h) = \\ w @ w",
		"assert STOP [T= c?p$q -> STOP",
	), "T data 0", "A con 1", "x var 0", "B con 0", "c channel 1", "y var 0", "N nametype 0", "z var 0", "f global 1", "u var 0", "v var 0", "g global 0", "h global 0", "w var 0", "p var 0", "q var 0")
	wantSymbols(t, "f = <x.y | x <- <1>, y <- <2>>", "f global 0", "x var 0", "y var 0")
	wantSymbols(t, lines(
		"f(x) = let",
		"    g(y) = h",
		"    (h, i) = g(1)",
		"    j = 1",
		"  within j",
	), "f global 1", "x var 0", "g local 1", "y var 0", "h local 0", "i local 0", "j local 0")
}

func TestClauses(t *testing.T) {
	wantSymbols(t, "f(1) = 1\nf(2) = 2\nf(x) = 3\ng(1) = 1", "f global 1", "x var 0", "g global 1")
	wantSymbols(t, "f = let\n    g(1) = 1\n    g(2) = 2\n  within 1", "f global 0", "g local 1")
	wantResolved(t, "f(1) = f(1)", "f(x'1) = f(x'1)", "f(x'2) = x'2", "g = f(1)")
	wantResolved(t, "f(1) = let", "    f'1(1) = f'1(2)", "    f'1(2) = f'1(1)", "  within f'1(1)", "f(2) = f(1)")
}

func TestFunctionsAndLambdas(t *testing.T) {
	wantResolved(t, "f(x'1, (y'1, _)) = (x'1, y'1, z)", "z = \\ x'2, y'2 @ (x'2, \\ x'3 @ (x'3, y'2))")
	wantResolved(t, "f(f'1) = f'1(f'1)", "g = f(1)")
	wantResolved(t, "x = 1", "f(x'1) = (\\ x'2 @ x'2)(x'1)", "y = x")
	wantResolved(t, "x = 1", "f = (\\ x'1 @ x'1, x)")
}

func TestLets(t *testing.T) {
	wantResolved(t, "f(x'1) = let x'2 = x'2 within x'2", "g(x'3) = f(x'3)")
	wantResolved(t, "x = 1", "f = (let (x'1, y) = (y, x'1) within x'1, x)")
	wantResolved(t,
		"x = y", "y = x",
		"f = let",
		"    y'1 = let",
		"        x'2 = y'1",
		"      within (x'2, y'1)",
		"    x'1 = y'1",
		"  within (x'1, y'1)")
}

func TestComprehensions(t *testing.T) {
	for _, brackets := range [][2]string{{"<", ">"}, {"{", "}"}, {"{|", "|}"}} {
		wantResolved(t, "x = 1", "y = 2", "f = "+brackets[0]+"(x'2, y'1) | x'1 <- g(x, y), y'1 <- g(x'1, y), h(x'1, y'1), x'2 <- g(x'1, y'1), h(x'2, y'1)"+brackets[1]+"(x, y)", "g = 1", "h = 2")
	}
}

func TestReplicatedOperators(t *testing.T) {
	for _, op := range []string{"[]", "|~|", "|||", ";", "[| x |]", "[+ x +]"} {
		wantResolved(t, "x = 1", "P = ("+op+" x'1 : x, x'2 : x'1, x'2 @ x'2, x)")
	}
	wantResolved(t, "x = 1", "P = (|| x'1 : x, x'2 : x'1 @ [x'2] x'2, x)")
}

func TestRenames(t *testing.T) {
	wantResolved(t, "x = 1", "y = 2", "P = (x[[x'2 <- y'1, y'1 <- x'2 | x'1 <- f(x, y), y'1 <- f(x'1, y), x'2 <- f(x'1, y'1)]], x, y)", "f = 1")
	wantResolved(t, "x = 1", "P = x[[x <- x]]")
}

func TestPrefixes(t *testing.T) {
	wantResolved(t, "channel c", "x = 1", "P = (c.x?x'1:x!x'1$x'2:x'1!x'2 -> x'2, x)")
	wantResolved(t, "channel c", "x = 1", "P = c?(x'1 @@ (y'1, <z'1>)):x -> (x'1, y'1, z'1)")
}

func TestConstantsInPatterns(t *testing.T) {
	wantResolved(t, "datatype T = A | B.T", "channel c", "f(A, B.x, c) = \\ A, c @ (A, B, c, x)")
	wantResolved(t, "f(A'1, c'1) = (A'1, c'1)", "datatype T = A'1", "channel c'1")
	wantResolved(t, "channel c", "f = let c'1 = 1 within (c'1, \\ c @ c'1, <c'1 | (x, c) <- c'1>)")
	wantResolved(t, "channel c", "f = let c'1(c) = c'1 within let (x, c) = c'1 within c'1")
	wantResolved(t, "channel c", "(x, c) = x", "P = c?c -> c")
	wantSymbols(t, "channel c\nf(c) = \\ c @ let (c, x) = 1 within c", "c channel 0", "f global 1", "x local 0")
}

func TestBuiltinsMayBeHidden(t *testing.T) {
	wantResolved(t, "f(card'1) = (card'1, union)", "g = let union'1 = card within union'1", "h = {Int'1 | Int'1 <- Int}", "i = (Events, Bool)")
}

func TestNumbersOfOtherNodes(t *testing.T) {
	wantResolved(t, "datatype T = A", "nametype N = T", "channel c : T.N", "f :: T", "f = A", "x :: T", "(x, y) = (T, N)", "z = let", "    x'1 :: Int", "    f'1 :: Int", "    (x'1, y'1) = y'1", "    f'1 = f'1", "  within x'1")
	q, s := resolve(t, source(t, "datatype T = A\ndatatype U = B\nf :: (U, Int, T, Bool, <Event>) -> Proc\nf = _"))
	var types []string
	for _, n := range q {
		if n.Op != api.OpTypeName {
			continue
		}
		if n.Int == 0 {
			types = append(types, n.Str+" 0")
		} else {
			types = append(types, describe(s[n.Int]))
		}
	}
	if want := []string{"U data 0", "Int 0", "T data 0", "Bool 0", "Event 0", "Proc 0"}; !slices.Equal(types, want) {
		t.Errorf("types are %q, want %q", types, want)
	}
}

func TestJoinedNames(t *testing.T) {
	module := lines("module M", "  x = 1", "  datatype T = A", "  channel c : T", "exports", "  y :: T", "  y = \\ x, A @ f(x, c)", "  f(z) = z", "endmodule")
	wantSymbols(t, module, "M::x global 0", "M::T data 0", "M::A con 0", "M::c channel 1", "M::y global 0", "x var 0", "M::f global 1", "z var 0")
	wantNoError(t, module, "g = M::y")
	wantSymbols(t, lines("channel tock", "Timed (f)", "  P = c?_ -> STOP", "endtimed", "f(x) = 1", "channel c : {1}"),
		"Timed::tock global 0", "Timed::union global 2", "Timed::a var 0", "Timed::b var 0", "Timed::diff global 2", "Timed::a var 0", "Timed::b var 0", "Timed::stop global 0", "Timed::skip global 0",
		"Timed::wait global 2", "Timed::n var 0", "Timed::p var 0", "Timed::delay0 global 1", "Timed::e var 0",
		"tock channel 0", "P global 0", "Timed::here local 0", "Timed::0 var 0", "f global 1", "x var 0", "c channel 1")
}

func TestResultsShareNoMemory(t *testing.T) {
	p := source(t, "f(x) = x")
	q, s := resolve(t, p)
	again, more := resolve(t, p)
	q[0].Op, s[0].Name = 0, ""
	if p[0].Op == 0 || again[0].Op == 0 || more[0].Name == "" {
		t.Error("results of Resolve share memory")
	}
}
