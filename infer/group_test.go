package infer_test

import (
	"testing"

	"cspcheck/api"
)

// P8.1: functions are quantified, also those without parameters, and each use has an instance of its own.
func TestQuantifiedFunctions(t *testing.T) {
	wantSchemes(t, lines(
		"f1 = (id(1), id(true), id(id)(STOP))",
		"id(x) = x",
		"nil = <>",
		"f2 = (nil^<1>, nil^<true>, nil)",
		"pair(x, y) = (y, x)",
		"f3(x) = pair(pair(x, 1), x)",
		"twice(g) = \\ z @ g(g(z))",
		"f4 = twice(twice)",
		"same(x, y) = x == y",
		"f5(x) = same(<x>, <x>)",
		"f6(x, y) = (same(x, 1), same(y, y), y < y)",
		"f7(<>, y) = y",
		"f7(<x>^_, y) = x",
	),
		"f1: 0 (Int, Bool, Proc)",
		"id: 1 (t0) -> t0",
		"nil: 1 <t0>",
		"f2: 1 (<Int>, <Bool>, <t0>)",
		"f3: 1 (t0) -> (t0, (Int, t0))",
		"twice: 1 ((t0) -> t0) -> (t0) -> t0",
		"f4: 1 ((t0) -> t0) -> (t0) -> t0",
		"same: 1 (t0, t0) -> Bool t0:Eq",
		"f5: 1 (t0) -> Bool t0:Eq",
		"f6: 1 (Int, t0) -> (Bool, Bool, Bool) t0:Eq+Ord",
		"f7: 1 (<t0>, t0) -> t0",
	)
}

// P8.1: inside a group, functions are not quantified. Each of them has its own variables afterwards.
func TestFunctionsOfOneGroup(t *testing.T) {
	wantError(t, api.ErrType, "f(x) = (f(1), f`(true))")
	wantError(t, api.ErrType, "f(x) = g(1)", "g(x) = (f(true), f`(1))")
	wantError(t, api.ErrType, "f(x) = g(1)", "`g(x) = x and f(1)")
	wantSchemes(t, lines(
		"f(x, y) = if x == x then g(y, x) else 1",
		"g(x, y) = if y < y then f(y, x) else 2",
		"h = (f(1, STOP), f(true, 2))",
	),
		"f: 2 (t0, t1) -> Int t0:Eq+Ord",
		"g: 2 (t0, t1) -> Int t1:Eq+Ord",
	)
}

// P8.1: local functions are quantified apart from the variables of what is around them. Quantified variables have the first numbers.
func TestLocalFunctions(t *testing.T) {
	wantSchemes(t, lines(
		"channel a",
		"f1(x) = let g1(y) = (x, y) within (g1(1), g1(true))",
		"f2(x) = let g2(y) = x == y within g2",
		"f3(x) = let g3(y, z) = (x == y, z < z) within g3",
		"f4(x) = <let g4(z) = (y, z) within g4 | y <- x>",
		"f5(e) = e?y -> let g5(z) = (y, z) within STOP",
		"f6(e) = e$y!1 -> let g6(z) = (y, z) within STOP",
		"f7(s) = [] y : s @ let g7(z) = (y, z) within STOP",
		"f8(s) = STOP[[(let g8(z) = (y, z) within a) <- a | y <- s]]",
		"f9 = \\ y @ let g9(z) = (y, z) within g9",
		"f10(x) = let h(y) = let g10(z) = (x, y, z) within g10 within h(1)",
		"f11(x) = let g11(z, y) = (y, x, z) within let y = g11(1, 2) within x + 1",
		"f12(s, x) = (\\ y @ 1)(let g12(z) = (x, z) within g12)",
	),
		"f1: 1 (t0) -> ((t0, Int), (t0, Bool))", "g1: 1 (t0) -> (t1, t0)",
		"f2: 1 (t0) -> (t0) -> Bool t0:Eq", "g2: 0 (t0) -> Bool",
		"f3: 2 (t0) -> (t0, t1) -> (Bool, Bool) t0:Eq t1:Ord", "g3: 1 (t1, t0) -> (Bool, Bool) t0:Ord",
		"f4: 2 (<t0>) -> <(t1) -> (t0, t1)>", "g4: 1 (t0) -> (t1, t0)",
		"g5: 1 (t0) -> (t1, t0)", "g6: 1 (t0) -> (t1, t0)", "g7: 1 (t0) -> (t1, t0)", "g8: 1 (t0) -> (t1, t0)", "g9: 1 (t0) -> (t1, t0)",
		"h: 2 (t0) -> (t1) -> (t2, t0, t1)", "g10: 1 (t0) -> (t1, t2, t0)",
		"f11: 0 (Int) -> Int", "g11: 2 (t0, t1) -> (t1, Int, t0)",
		"g12: 1 (t0) -> (t1, t0)",
	)
	wantError(t, api.ErrType, "f = \\ y @ let g(z) = <y, z> within (g(1), g`(true))")
	wantError(t, api.ErrType, "f(x) = (x(1), x`(true))")
}

// P8.1: functions that enclosing groups are still processing are not quantified.
func TestFunctionsOfEnclosingGroups(t *testing.T) {
	wantSchemes(t, lines(
		"f1(x) = let g1(y) = f1(y) within g1(x)",
		"f2(x) = let g2(y) = f3(y) within g2",
		"f3(x) = if true then x else f2(x)(x)",
	),
		"f1: 2 (t0) -> t1", "g1: 0 (t0) -> t1",
		"f2: 1 (t0) -> (t0) -> t0", "f3: 1 (t0) -> t0", "g2: 0 (t0) -> t0",
	)
	wantError(t, api.ErrType, "f(x) = let g(y) = f(y) within (g(1), g`(true))")
}

// P8.1: variables of Binds are not quantified, so functions that use them are not, either, in their variables.
func TestBinds(t *testing.T) {
	wantSchemes(t, lines(
		"(v, w) = (<>, \\ x @ x)",
		"f1(x) = (v, w(x))",
		"f2(x) = (x, v)",
		"f3 = <1>^v",
		"(u, _) = (f4, 1)",
		"f4(x) = if null(<u>) then x else x",
		"f5 = f4(true)",
		"(<a, b>, {(c, 0)}, d^<e>, g @@ (h.1)) = (<1, b>, {(b == b, 0)}, <STOP>, true.1)",
		"f6(x) = let (y, z) = (x, <>) within let k(p) = <(p, y, z)> within k",
	),
		"v: 0 <Int>", "w: 0 (t0) -> t0",
		"f1: 0 (t0) -> (<Int>, t0)",
		"f2: 1 (t0) -> (t0, <Int>)",
		"u, f4: 0 (Bool) -> Bool",
		"a, b: 0 Int", "c, h: 0 Bool", "d: 0 <Proc>", "e: 0 Proc", "g: 0 (Bool.Int)",
		"y: 0 t0", "z: 0 <t0>", "k: 1 (t0) -> <(t0, t1, <t2>)>",
		"f6: 3 (t0) -> (t1) -> <(t1, t0, <t2>)>",
	)
}

// P8.2: the equations of functions and Binds, and the order of units and groups.
func TestErrorsOfDefinitions(t *testing.T) {
	wantError(t, api.ErrType, "f(0) = 1", "`f(x) = true")
	wantError(t, api.ErrType, "f(0) = 1", "`f(true) = 1", "f(x) = 1 + true")
	wantError(t, api.ErrType, "f(0, 0) = 1 `+ true", "f(x, true) = 1")
	wantError(t, api.ErrType, "f(x) = let", "    g(0) = x", "    `g(1) = <x, 1>", "  within x")
	wantError(t, api.ErrInfinite, "`f = <f>")
	wantError(t, api.ErrInfinite, "`f(x) = f")
	wantError(t, api.ErrInfinite, "f(x) = g(x)", "`g(x) = <f(x)>")
	wantError(t, api.ErrType, "`(v, w) = 1")
	wantError(t, api.ErrType, "`(v, 1) = (1, true)")
	wantError(t, api.ErrType, "(<v, 1, true>, w) = 1 `+ true")
	wantError(t, api.ErrType, "(`<v, 1, true>, w) = 1")
	wantError(t, api.ErrInfinite, "`(v, w) = (<v>, 1)")
	wantError(t, api.ErrType, "g(x) = (f(1), 1 `+ true)", "f(x) = (g(1), 1 + true)")
	wantError(t, api.ErrType, "(v, w) = (f, 1 `+ true)", "f(x) = (v, 1 + true)")
	wantError(t, api.ErrType, "f(x) = (v, 1 `+ true)", "(v, w) = (f, 1 + true)")
	wantError(t, api.ErrType, "f = (g, 1 + true)", "g = 1 `+ true")
	wantError(t, api.ErrType, "f(x) = let", "    g = (h, 1 + true)", "    h = 1 `+ true", "  within x")
	wantError(t, api.ErrType, "f = let (v, w) = (\\ x @ x, 1) within (v(1), v`(true))")
}

// P8.2: Binds without variables come after the groups of their block.
func TestBindsWithoutVariables(t *testing.T) {
	wantError(t, api.ErrType, "`(1, 2) = (true, 2)")
	wantError(t, api.ErrType, "(1, 2) = (1 `+ true, 2)", "(3, _) = (1 + true, 2)")
	wantError(t, api.ErrType, "(1, 2) = (true, 2)", "f = 1 `+ true")
	wantError(t, api.ErrType, "assert 1 :[deadlock free]", "`(1, 2) = 1")
	wantError(t, api.ErrType, "f = let", "    `(1, 2) = (true, 2)", "  within 1 + true")
	wantError(t, api.ErrType, "f = let", "    (1, 2) = (true, 2)", "    g = 1 `+ true", "  within 1 + true")
	wantError(t, api.ErrClass, "(true, _) = (STOP `== STOP, 1)", "assert 1 :[deadlock free]")
	wantNoError(t, "(1, true) = f(1)", "f(x) = (x, x == x)")
	wantSchemes(t, "f(x) = let (1, _) = (x, 2) within x", "f: 0 (Int) -> Int")
	wantError(t, api.ErrClass, "f(x) = let (true, _) = (x `== x, 1) within (x ; x)")
}
