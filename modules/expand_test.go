package modules_test

import (
	"slices"
	"strings"
	"testing"

	"cspcheck/api"
	"cspcheck/modules"
	"cspcheck/syntax"
)

// P4.1

func TestExpandKeepsTheOrder(t *testing.T) {
	wantProgram(t, lines(
		"z = 1",
		"module M(p)", "  x = p", "exports", "  y = x", "endmodule",
		"module N", "  u = 1", "exports", "  v = u", "endmodule",
		"instance I = M(z + 1)",
		"w = I::y",
		"instance J = N",
		"assert w [T= J::v",
	), lines(
		"z = 1",
		"N'u = 1", "N'v = N'u",
		"I'p = z + 1", "I'x = I'p", "I'y = I'x",
		"w = I'y",
		"J'u = 1", "J'v = J'u",
		"assert w [T= J'v",
	))
}

func TestExpandOfSeveralParameters(t *testing.T) {
	wantProgram(t, lines(
		"instance I = M(p, M, \\ q @ q)",
		"module M(p, q, r)", "  q' = q", "exports", "  f(q) = p.q.r", "endmodule",
		"p = 1", "q = 2",
	), lines(
		"I'p = p", "I'q = M", "I'r = \\ q @ q",
		"I'q' = I'q", "I'f(q) = I'p.q.I'r",
		"p = 1", "q = 2",
	))
}

func TestExpandOfSeveralInstances(t *testing.T) {
	wantProgram(t, lines(
		"module M", "  c = 1", "exports", "  d = c", "endmodule",
		"instance I = M", "instance J = M",
		"e = (M::d, I::d, J::d)",
	), lines(
		"M'c = 1", "M'd = M'c",
		"I'c = 1", "I'd = I'c",
		"J'c = 1", "J'd = J'c",
		"e = (M'd, I'd, J'd)",
	))
}

func TestExpandOfUnusedModules(t *testing.T) {
	wantProgram(t, lines("module M(p)", "  x = p", "endmodule", "y = 1"), "y = 1")
}

func TestExpandRenamesDeclarations(t *testing.T) {
	wantBody(t, "nametype T = {a}\nf2(x) = x\nf2 :: Int -> Int\n(u, <v>) = (a, b)\nchannel c, d : T.{b}\nchannel e",
		"nametype M'T = {M'a}\nM'f2(x) = x\nM'f2 :: Int -> Int\n(M'u, <M'v>) = (M'a, M'b)\nchannel M'c, M'd : M'T.{M'b}\nchannel M'e")
	wantBody(t, "datatype D = A | B.{a}.D | C.D", "datatype M'D = M'A | M'B.{M'a}.M'D | M'C.M'D")
	wantBody(t, "Timed (f)\n  g(x) = g(a)\n  (y, z) = y\n  g :: D -> x\nendtimed\ndatatype D = A",
		"Timed (M'f)\n  M'g(x) = M'g(M'a)\n  (M'y, M'z) = M'y\n  M'g :: M'D -> x\nendtimed\ndatatype M'D = M'A")
	wantBody(t, "Timed (other)\n  g = 1\nendtimed", "Timed (other)\n  M'g = 1\nendtimed")
	wantProgram(t, lines("module M(p)", "  p :: Int", "  q :: Int", "  q(1) = p", "exports", "  q(2) = p", "endmodule", "instance I = M(1)", "x = I::q(1)"),
		lines("I'p = 1", "I'p :: Int", "I'q :: Int", "I'q(1) = I'p", "I'q(2) = I'p", "x = I'q(1)"))
}

func TestExpandRenamesTypes(t *testing.T) {
	wantBody(t, "datatype T = A | U\nnametype N = {a}\na :: (Eq x, T x) => T -> <{T}> -> (| T => (T, U.N) |) -> x\nh :: T => f -> Event",
		"datatype M'T = M'A | M'U\nnametype M'N = {M'a}\nM'a :: (Eq x, T x) => M'T -> <{M'T}> -> (| M'T => (M'T, U.N) |) -> x\nh :: M'T => f -> Event")
	// The names of types that start with a lower-case letter are variables.
	wantBody(t, "datatype g = A\na :: g -> f", "datatype M'g = M'A\nM'a :: g -> f")
	// Nothing that a node binds hides the name of a type.
	wantBody(t, "x(T) = let\n    h :: T -> a\n    h(T) = T\n  within h\ndatatype T = A", "M'x(T) = let\n    h :: M'T -> a\n    h(T) = T\n  within h\ndatatype M'T = M'A")
}

func TestExpandOfLowerCaseModules(t *testing.T) {
	q := expand(t, source(t, "module m\n  datatype T = A\n  x :: T\n  x = A\nendmodule"))
	if got := q[4].Str; got != "m::T" || q[4].Op != api.OpTypeName {
		t.Errorf("the type is %q", got)
	}
}

func TestExpandLeavesOtherNames(t *testing.T) {
	wantBody(t, "g = (union(a, other), Int, h)", "M'g = (union(M'a, other), Int, h)")
	wantProgram(t, module("g = (a, M::a)")+"\nh = (a, M::a)\na = 1\nassert a [T= M::b\n(u, b) = a",
		lines("M'g = (M'a, M'a)", "M'a = 1", "M'b = 2", "M'f(x) = x", "h = (a, M'a)", "a = 1", "assert a [T= M'b", "(u, b) = a"))
	wantProgram(t, module("g = N::c")+"\n"+lines("module N", "  a = 1", "exports", "  c = a.M::b", "endmodule"),
		lines("M'g = N'c", "M'a = 1", "M'b = 2", "M'f(x) = x", "N'a = 1", "N'c = N'a.M'b"))
}

func TestExpandHidesWhatFunctionsBind(t *testing.T) {
	wantBody(t, "g(a, (b, <c>^d)) = a.b.c.d.f\nh = a.b.c", "M'g(a, (b, <c>^d)) = a.b.c.d.M'f\nM'h = M'a.M'b.c")
	wantBody(t, "g(x) = \\ a, {b} @ a.b.f(x)\nh = (\\ a @ a)(a)", "M'g(x) = \\ a, {b} @ a.b.M'f(x)\nM'h = (\\ a @ a)(M'a)")
	wantBody(t, "g(a) = \\ b @ let f(x) = a within f(b)", "M'g(a) = \\ b @ let f(x) = a within f(b)")
}

func TestExpandHidesWhatLetsBind(t *testing.T) {
	wantBody(t, "g = let\n    b = a\n    (a, c) = b.f(1)\n    f(x) = f(b)\n    f :: a -> b\n  within a.b.f(1)\nh = a.b.f",
		"M'g = let\n    b = a\n    (a, c) = b.f(1)\n    f(x) = f(b)\n    f :: a -> b\n  within a.b.f(1)\nM'h = M'a.M'b.M'f")
	wantBody(t, "g = (let a = b within a).a", "M'g = (let a = M'b within a).M'a")
	wantBody(t, "g = let\n    h(a) = a\n    i = a\n  within let b = a within a.b", "M'g = let\n    h(a) = a\n    i = M'a\n  within let b = M'a within M'a.b")
}

func TestExpandHidesWhatComprehensionsBind(t *testing.T) {
	for _, brackets := range [][2]string{{"<", ">"}, {"{", "}"}, {"{|", "|}"}} {
		open, end := "g = "+brackets[0], brackets[1]
		wantBody(t, open+"a.b | a <- a.b, b <- a.b, f(a.b)"+end, "M'"+open+"a.b | a <- M'a.M'b, b <- a.M'b, M'f(a.b)"+end)
		wantBody(t, open+"a | a.b, a <- b, a.b"+end, "M'"+open+"a | M'a.M'b, a <- M'b, a.M'b"+end)
	}
}

func TestExpandHidesWhatRepeatsBind(t *testing.T) {
	for _, op := range []string{"[]", "|~|", "|||", ";"} {
		wantBody(t, "g = "+op+" a : a.b, b <- a.b @ a.b.f", "M'g = "+op+" a : M'a.M'b, b <- a.M'b @ a.b.M'f")
	}
	wantBody(t, "g = [| a.b |] a <- a, a.b @ a.b", "M'g = [| M'a.M'b |] a <- M'a, a.M'b @ a.M'b")
	wantBody(t, "g = [+ a.b +] a <- a, a.b @ a.b", "M'g = [+ M'a.M'b +] a <- M'a, a.M'b @ a.M'b")
	wantBody(t, "g = || a <- a, a.b @ [a.b] a.b", "M'g = || a <- M'a, a.M'b @ [a.M'b] a.M'b")
}

func TestExpandHidesWhatRenamesBind(t *testing.T) {
	wantBody(t, "g = a [[a.b <- f(a), b <- a | a <- a, b <- a.b, a]]", "M'g = M'a [[a.b <- M'f(a), b <- a | a <- M'a, b <- a.M'b, a]]")
	wantBody(t, "g = a [[a <- b]]", "M'g = M'a [[M'a <- M'b]]")
	wantBody(t, "g = a [a <-> b] a", "M'g = M'a [M'a <-> M'b] M'a")
	wantBody(t, "g = (| a => b |)", "M'g = (| M'a => M'b |)")
}

func TestExpandHidesWhatPrefixesBind(t *testing.T) {
	wantBody(t, "g = a!a?a:a+b!a$b:a+b!b -> a.b.f\nh = a.b", "M'g = M'a!M'a?a:M'a+M'b!a$b:a+M'b!b -> a.b.M'f\nM'h = M'a.M'b")
	wantBody(t, "g = (f?(a, b)!a -> a) [] a -> b", "M'g = (M'f?(a, b)!a -> a) [] M'a -> M'b")
	wantBody(t, "g = a?a -> b?b -> a.b", "M'g = M'a?a -> M'b?b -> a.b")
}

func TestExpandOfConstructorsAndChannelsInPatterns(t *testing.T) {
	outside := "\ndatatype T = A\nchannel c"
	after := lines("", "M'a = 1", "M'b = 2", "M'f(x) = x", "datatype T = A", "channel c")
	wantOutside := func(body, want string) {
		t.Helper()
		wantProgram(t, module(body)+outside, want+after)
	}
	wantOutside("g(A, c, d) = A.c.d", "M'g(A, c, d) = A.c.d")
	wantOutside("(A, c, d) = A.c.d", "(A, c, M'd) = A.c.M'd")
	wantBody(t, "datatype T = A.{0}\nchannel c, d : T\ng(A.x, c) = A.x.c\n(A, u) = c?A?d?d2 -> A.u.d2",
		"datatype M'T = M'A.{0}\nchannel M'c, M'd : M'T\nM'g(M'A.x, M'c) = M'A.x.M'c\n(M'A, M'u) = M'c?M'A?M'd?d2 -> M'A.M'u.d2")
	wantBody(t, "g(A) = A\nh = let (A, x) = 1 within A", "M'g(A) = A\nM'h = let (A, x) = 1 within A")
}

func TestExpandOfConstructorsOfOtherModules(t *testing.T) {
	other := lines("", "module N", "  datatype T = A", "  g(A) = A", "endmodule", "h(A) = A")
	wantProgram(t, module("g(A) = A", "(A, x) = 1")+other, lines(
		"M'g(A) = A", "(M'A, M'x) = 1", "M'a = 1", "M'b = 2", "M'f(x) = x",
		"datatype N'T = N'A", "N'g(N'A) = N'A", "h(A) = A"))
}

func TestExpandOfPatternsWithConstructorsThatLetsHide(t *testing.T) {
	wantHidden := func(body, want string) {
		t.Helper()
		wantBody(t, "datatype T = A | B\n"+body, "datatype M'T = M'A | M'B\n"+want)
	}
	wantHidden("g = let A = 1 within (A, \\ A, B @ A.B)", "M'g = let A = 1 within (A, \\ A, M'B @ A.M'B)")
	wantHidden("g = let\n    (A, B, x) = A\n    A = a\n    h(A, B) = A\n  within A.B.x\nh(A) = A",
		"M'g = let\n    (A, M'B, x) = A\n    A = M'a\n    h(A, M'B) = A\n  within A.M'B.x\nM'h(M'A) = M'A")
	wantHidden("g = let A = 1 within <A | (A, B) <- A> . ([] A : a @ A) . (f [[A <- B | A <- B]])",
		"M'g = let A = 1 within <A | (A, M'B) <- A> . ([] A : M'a @ A) . (M'f [[A <- M'B | A <- M'B]])")
	wantHidden("g = let A = 1 within A?A?B$A:a -> A", "M'g = let A = 1 within A?A?M'B$A:M'a -> A")
	wantHidden("g = let A = 1 within let B = 1 within \\ A @ \\ B @ A.B", "M'g = let A = 1 within let B = 1 within \\ A @ \\ B @ A.B")
	wantHidden("g = (let A = 1 within A).(\\ A @ A)", "M'g = (let A = 1 within A).(\\ M'A @ M'A)")
	// The Bind of a Let does not bind A, and its pattern means the member.
	wantHidden("g = let (A, x) = A within \\ A @ A.x", "M'g = let (M'A, x) = M'A within \\ M'A @ M'A.x")
}

func TestExpandOfPatternsWithMembersThatAreConstantsOutside(t *testing.T) {
	outside := "\ndatatype T = a | U\nchannel b, f, d"
	wantMembers := func(body, want string) {
		t.Helper()
		wantProgram(t, module(strings.Split(body, "\n")...)+outside, want+"\nM'a = 1\nM'b = 2\nM'f(x) = x"+outside)
	}
	wantMembers("g(a, U, d, <x>^b, {f}) = a.x", "M'g(M'a, U, d, <x>^M'b, {M'f}) = M'a.x")
	wantMembers("g(x, g) = \\ a, x, g @ a.x.g", "M'g(x, g) = \\ M'a, x, g @ M'a.x.g")
	wantMembers("(a, b.U, x) = a.b.x", "(M'a, M'b.U, M'x) = M'a.M'b.M'x")
	wantMembers("g = let (a, x) = b within a.x", "M'g = let (M'a, x) = M'b within M'a.x")
	wantMembers("g = let a = b within \\ a, b @ a", "M'g = let a = M'b within \\ a, M'b @ a")
	wantMembers("g = <a | (a, x) <- a, b@@x <- x>", "M'g = <M'a | (M'a, x) <- M'a, M'b@@x <- x>")
	wantMembers("g = {a | a <- U}.{|a | a <- U|}", "M'g = {M'a | M'a <- U}.{|M'a | M'a <- U|}")
	wantMembers("g = || a : b, x : a @ [a.x] a.x", "M'g = || M'a : M'b, x : M'a @ [M'a.x] M'a.x")
	wantMembers("g = [| a |] a : b @ a", "M'g = [| M'a |] M'a : M'b @ M'a")
	wantMembers("g = a [[a <- x | (a, x) <- b]]", "M'g = M'a [[M'a <- x | (M'a, x) <- M'b]]")
	wantMembers("g = d?a?x:b$b!a -> a.x", "M'g = d?M'a?x:M'b$M'b!M'a -> M'a.x")
	wantMembers("Timed (a)\n  g(a, x) = x\n  (b, y) = a\nendtimed", "Timed (M'a)\n  M'g(M'a, x) = x\n  (M'b, M'y) = M'a\nendtimed")
	wantBody(t, "g(a) = a", "M'g(a) = a") // without the constructor, a binds
}

func TestExpandOfPatternsWithOtherMembers(t *testing.T) {
	// A parameter, a datatype, a nametype or the function itself is a member, too.
	wantProgram(t, lines("module M(p)", "  datatype T = V", "  nametype N = T", "  K(p, T, N, K, x) = \\ x @ x", "endmodule", "instance I = M(K)", "datatype U = p | T | N | K"),
		lines("I'p = K", "datatype I'T = I'V", "nametype I'N = I'T", "I'K(I'p, I'T, I'N, I'K, x) = \\ x @ x", "datatype U = p | T | N | K"))
	// Each instance has its own members.
	wantProgram(t, lines("module M", "  f = [] K : g @ K", "  K = 1", "  g = {K}", "endmodule", "instance I = M", "datatype T = K"),
		lines("M'f = [] M'K : M'g @ M'K", "M'K = 1", "M'g = {M'K}", "I'f = [] I'K : I'g @ I'K", "I'K = 1", "I'g = {I'K}", "datatype T = K"))
	// Both the program and the module have a constructor or channel A.
	wantProgram(t, lines("datatype T = A", "module M", "  channel A", "exports", "  f(A) = A", "endmodule"),
		lines("datatype T = A", "channel M'A", "M'f(M'A) = M'A"))
	// The constructor of the program makes A not bind, so A is no member of M by its Bind.
	wantProgram(t, lines("datatype T = A", "module M", "  (A, x) = \\ A @ x", "endmodule"),
		lines("datatype T = A", "(A, M'x) = \\ A @ M'x"))
}

func TestPositionsOfExpansions(t *testing.T) {
	src := lines("module M(p)", "  x = p", "exports", "  y(a) = a", "endmodule", "instance I = M(u + 1)", "u = 1")
	q := expand(t, source(t, src))
	at := func(line, col int) api.Pos { return api.Pos{Line: line, Col: col} }
	want := []api.Node{
		{Op: api.OpProgram, Kids: 4, Pos: at(1, 1)},
		{Op: api.OpFun, Str: "I::p", Kids: 2, Pos: at(6, 1)},
		{Op: api.OpParams},
		{Op: api.OpAdd, Kids: 2, Pos: at(6, 18)},
		{Op: api.OpName, Str: "u", Pos: at(6, 16)},
		{Op: api.OpInt, Int: 1, Pos: at(6, 20)},
		{Op: api.OpFun, Str: "I::x", Kids: 2, Pos: at(2, 3)},
		{Op: api.OpParams},
		{Op: api.OpName, Str: "I::p", Pos: at(2, 7)},
		{Op: api.OpFun, Str: "I::y", Kids: 2, Pos: at(4, 3)},
		{Op: api.OpParams, Kids: 1},
		{Op: api.OpName, Str: "a", Pos: at(4, 5)},
		{Op: api.OpName, Str: "a", Pos: at(4, 10)},
		{Op: api.OpFun, Str: "u", Kids: 2, Pos: at(7, 1)},
		{Op: api.OpParams},
		{Op: api.OpInt, Int: 1, Pos: at(7, 5)},
	}
	if !slices.Equal(q, want) {
		t.Errorf("got %+v\nwant %+v", q, want)
	}
}

func TestResultsOfExpandAreNew(t *testing.T) {
	p := source(t, module("g = a"))
	q := expand(t, p)
	for i := range q {
		q[i].Str = "changed"
	}
	if syntax.Equal(q, expand(t, p)) {
		t.Error("a result shares memory with another one")
	}
}

func TestExpandOfFlatPrograms(t *testing.T) {
	for _, src := range []string{
		"x = 1",
		"datatype T = A | B.{0}\nchannel c : T\nnametype N = T\nf :: T -> Int\nf(A) = 0\n(u, v) = let g(a) = u within g\nTimed (f)\n  P = c?A -> P\nendtimed\nassert P [T= P\nassert not P :[deterministic]",
	} {
		p := source(t, src)
		if !modules.Flat(p) {
			t.Errorf("%q is not flat", src)
		}
		if q := expand(t, p); !slices.Equal(p, q) {
			t.Errorf("Expand of %q:\n got %v\nwant %v", src, q, p)
		}
	}
}
