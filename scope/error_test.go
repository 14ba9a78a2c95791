package scope_test

import (
	"testing"

	"cspcheck/api"
	"cspcheck/syntax"
)

func TestInvalidTrees(t *testing.T) {
	invalid := [][]api.Node{
		nil,
		{},
		{{Op: api.OpProgram}},
		{{Op: api.OpProgram, Kids: 1}},
		{{Op: api.OpProgram, Kids: -1}},
		{{Op: api.OpFun, Str: "f", Kids: 2}, {Op: api.OpParams}, {Op: api.OpStop}},
	}
	for _, src := range []string{"module M\n  x = 1\nendmodule", "channel tock\nTimed (f)\n  P = STOP\nendtimed\nf(x) = 1", "f = let datatype T = A within A"} {
		p, _, e := syntax.Source(src)
		if e != api.OK {
			t.Fatalf("Source(%q): error %d", src, e)
		}
		invalid = append(invalid, p)
	}
	resolved, _ := resolve(t, source(t, "f(x) = x"))
	for _, p := range append(invalid, resolved) {
		wantErrorOf(t, p, api.Pos{}, api.ErrInvalid)
	}
}

// A name in a pattern does not bind if it is that of a constructor or channel, so a Bind is not the second declaration of one, or the first.
func TestNamesDeclaredTwice(t *testing.T) {
	first := []string{"x = 1", "x(_) = 1", "datatype x = A1", "nametype x = {1}", "datatype T1 = x", "channel x"}
	second := []string{"`x = 1", "`datatype x = A2", "`nametype x = {1}", "datatype T2 = `x", "channel `x"}
	for _, declaration := range first {
		for _, marked := range second {
			wantError(t, api.ErrDuplicate, declaration, "y = 1", marked)
		}
	}
	for _, declaration := range first[:4] {
		wantError(t, api.ErrDuplicate, declaration, "(_, `x) = 1")
	}
	for _, marked := range append(second[:3], "`x(1) = 1", "(`x, y) = 1") {
		wantError(t, api.ErrDuplicate, "(x, _) = 1", marked)
	}
	wantNoError(t, "datatype T = x", "(x, _) = 1")
	wantNoError(t, "(x, _) = 1", "channel x")
	wantError(t, api.ErrDuplicate, "datatype T = A | `A")
	wantError(t, api.ErrDuplicate, "datatype T = `T")
	wantError(t, api.ErrDuplicate, "channel a, b, `a")
	wantError(t, api.ErrDuplicate, "(x, <`x>) = 1")
	wantError(t, api.ErrDuplicate, "(x, (y, z)) = 1", "(a, <b, `y>) = 2")
}

func TestLocalNamesDeclaredTwice(t *testing.T) {
	wantError(t, api.ErrDuplicate, "f = let", "    x = 1", "    y = 2", "    `x = 3", "  within x")
	wantError(t, api.ErrDuplicate, "f = let", "    x = 1", "    (y, `x) = 2", "  within x")
	wantError(t, api.ErrDuplicate, "f = let", "    (y, x) = 2", "    `x(1) = 1", "  within x")
	wantError(t, api.ErrDuplicate, "f = let", "    (x, y) = 2", "    (z, `y) = 1", "  within x")
	wantNoError(t, "f = let", "    f = 1", "    g = let f = 2 within f", "  within f", "g = 2")
	wantNoError(t, "channel c", "f(c) = let c = 1 within c")
}

func TestNamesOfBuiltins(t *testing.T) {
	for _, marked := range []string{"`card = 1", "`card(x) = 1", "(x, `card) = 1", "`datatype card = A", "datatype T = `card", "`nametype card = {1}", "channel a, `card", "`datatype Int = A", "`datatype Bool = A"} {
		wantError(t, api.ErrDuplicate, marked)
	}
	wantNoError(t, "f(card) = \\ union @ <x | head <- (let tail = 1 within tail), (x, null) <- head>", "channel c", "P = c?set$seq -> STOP")
	wantNoError(t, "f = let", "    card(x) = 1", "    (union, diff) = 2", "  within card")
}

func TestNamesOfBasicTypes(t *testing.T) {
	wantError(t, api.ErrDuplicate, "`datatype Event = A")
	wantError(t, api.ErrDuplicate, "`datatype Proc = A")
	wantNoError(t, "datatype T = Event | Proc")
	wantNoError(t, "Proc = 1", "nametype Event = {1}")
}

func TestNamesTwiceInPatterns(t *testing.T) {
	for _, marked := range []string{
		"f(x, `x) = 1",
		"f((x, <y>), <(_, `y)>) = 1",
		"f = \\ x, (y, `x) @ 1",
		"f = <1 | (x, `x) <- <1>>",
		"f = {1 | x @@ `x <- {1}}",
		"f = {|1 | y <- 1, {x}.`x <- <1>|}",
		"f = [] (x, `x) : {1} @ STOP",
		"f = 1[[1 <- 1 | (x, `x) <- {1}]]",
		"f = 1?y?(x, `x) -> STOP",
		"f = 1$(x.`x) -> STOP",
	} {
		wantError(t, api.ErrDuplicate, marked)
	}
	wantNoError(t, "f(x) = \\ x @ <x | x <- x, x <- x>", "g(x) = 1?x?x$x -> [] x : x @ x[[x <- x | x <- x]]")
	wantNoError(t, "datatype T = A", "channel c", "f(A, A, c.c) = \\ A, A @ <A | (A, c, A) <- <>>", "(A, A) = 1")
}

func TestSigsTwice(t *testing.T) {
	wantError(t, api.ErrDuplicate, "f :: Int", "`f :: Int", "f = 1")
	wantError(t, api.ErrDuplicate, "f :: Int", "f = 1", "`f :: Bool")
	wantError(t, api.ErrDuplicate, "g = let", "    f :: Int", "    (f, g) = 1", "    `f :: Int", "  within 1")
	wantNoError(t, "f :: Int", "f = let", "    f :: Int", "    f = 1", "  within 1")
}

func TestClausesWithOtherParameters(t *testing.T) {
	wantError(t, api.ErrType, "f(1) = 1", "`f(1, 2) = 2")
	wantError(t, api.ErrType, "f(1, 2) = 1", "f(1, 3) = 1", "`f(1) = 2")
	wantError(t, api.ErrType, "f = 1", "`f(1) = 2")
	wantError(t, api.ErrType, "g = let", "    f(1) = 1", "    `f(1, 2) = 2", "  within 1")
	wantError(t, api.ErrDuplicate, "f(1) = 1", "`f = 2")
	wantError(t, api.ErrDuplicate, "f(1) = 1", "f :: (Int) -> Int", "`f(2) = 2")
	wantError(t, api.ErrDuplicate, "f(1) = 1", "g = 1", "`f(1, 2) = 2")
	wantError(t, api.ErrDuplicate, "(f, g) = 1", "`f(1) = 2")
}

func TestNamesThatAreNotDeclared(t *testing.T) {
	for _, marked := range []string{
		"f = `x",
		"f(x) = `y",
		"f = let x = 1 within `y",
		"f = <x | x <- `x>",
		"f = <1 | y <- `x, x <- y>",
		"f = (<x | x <- <>>, `x)",
		"f = (\\ x @ x)(`x)",
		"f = [| `x |] x : {1} @ x",
		"f = [+ `x +] x : {1} @ x",
		"f = 1[[x <- `y | x <- {1}]]",
		"f = `x[[1 <- 1 | x <- {1}]]",
		"f = 1?x:`x -> STOP",
		"f = 1!`x?x -> STOP",
		"f = (1?x -> STOP) [] `x",
		"datatype T = A.`x",
		"nametype N = `x",
		"channel c : `x",
		"channel c : {1}.`x",
		"assert `P [T= Q",
		"assert STOP :[has trace]: `x",
		"f = `Event",
		"f = `Proc",
		"f = (| 1 => `x |)",
		"f = STOP [1 <-> `x] STOP",
	} {
		wantError(t, api.ErrName, marked)
	}
	wantError(t, api.ErrName, "f(x) = 1", "f(y) = `x")
	wantError(t, api.ErrName, "f = let", "    g = 1", "  within g", "h = `g")
	wantErrorOf(t, nameOf("M::x"), api.Pos{Line: 1, Col: 5}, api.ErrName)
}

// nameOf returns the program f = x with a name in the place of x.
func nameOf(name string) []api.Node {
	return []api.Node{
		{Op: api.OpProgram, Kids: 1},
		{Op: api.OpFun, Str: "f", Kids: 2, Pos: api.Pos{Line: 1, Col: 1}},
		{Op: api.OpParams},
		{Op: api.OpName, Str: name, Pos: api.Pos{Line: 1, Col: 5}},
	}
}

func TestSigsThatAreNotDeclared(t *testing.T) {
	wantError(t, api.ErrName, "`f :: Int", "g = 1")
	wantError(t, api.ErrName, "f = let", "    `f :: Int", "    g = 1", "  within 1")
	wantError(t, api.ErrName, "f = let", "    g = 1", "  within 1", "`g :: Int")
	wantError(t, api.ErrName, "`card :: Int", "f(x) = 1")
	wantError(t, api.ErrName, "`x :: Int", "f(x) = 1")
	wantError(t, api.ErrName, "`c :: Int", "channel c", "(c, x) = 1")
	for _, declaration := range []string{"datatype T = A", "datatype A = T", "nametype A = {1}", "channel A"} {
		wantError(t, api.ErrName, "`A :: Int", declaration)
		wantError(t, api.ErrDuplicate, "A :: Int", declaration, "`A = 1")
	}
	wantNoError(t, "x :: Int", "(x, _) = 1", "f(1) = 1", "f(2) = 2", "f :: (Int) -> Int")
}

func TestTypesThatAreNotDeclared(t *testing.T) {
	wantError(t, api.ErrName, "f :: `T", "f = 1")
	wantError(t, api.ErrName, "f :: <(Int, {(| Bool => `T |)})> -> Event", "f = 1")
	wantError(t, api.ErrName, "f :: `N", "f = 1", "nametype N = {1}")
	wantError(t, api.ErrName, "f :: `A", "f = 1", "datatype T = A")
	wantError(t, api.ErrName, "f :: `Events", "f = 1")
	wantNoError(t, "f :: <T> -> (a, Int, Bool, Event, Proc)", "f(x) = 1", "datatype T = A")
}

func TestClasses(t *testing.T) {
	wantError(t, api.ErrName, "f :: (Eq a, `Num a) => a", "f = 1")
	wantError(t, api.ErrName, "f :: (`Proc a) => a", "f = 1")
	wantError(t, api.ErrName, "f :: (`T a) => a", "f = 1", "datatype T = A")
	wantNoError(t, "f :: (Eq a, Ord a, Set b) => (a, b) -> c", "f(x, y) = 1")
}

func TestFirstErrorIsReturned(t *testing.T) {
	wantError(t, api.ErrDuplicate, "f(x, `x) = y", "f :: T")
	wantError(t, api.ErrName, "f(x) = `y", "f(x, x) = 1")
	wantError(t, api.ErrName, "f = <`y | (x, x) <- <1>>")
	wantError(t, api.ErrName, "f = 1[[`y <- 1 | (x, x) <- <1>]]")
	wantError(t, api.ErrDuplicate, "f = let", "    (x, `x) = 1", "    y = z", "  within z")
	wantError(t, api.ErrType, "f(1) = 1", "`f(x, x) = y")
	wantError(t, api.ErrName, "`f :: (Num a) => T")
	wantError(t, api.ErrName, "f :: (`Num a) => T", "f = 1")
	wantError(t, api.ErrDuplicate, "`datatype card = A.x")
}

func TestTooManySymbols(t *testing.T) {
	most := api.MaxSymbols - 25
	if _, s := resolve(t, source(t, repeated(most, "f# = 1"))); len(s) != api.MaxSymbols {
		t.Errorf("%d symbols, want %d", len(s), api.MaxSymbols)
	}
	wantErrorOf(t, source(t, repeated(most+1, "f# = 1")), api.Pos{}, api.ErrFull)
	wantError(t, api.ErrName, repeated(most+1, "f# = 1"), "g = `x")
	wantNoError(t, repeated(most-1, "f# = 1"), "g(1) = 1", "g(2) = 1", "g(3) = 1")
}
