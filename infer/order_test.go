package infer_test

import (
	"testing"

	"cspcheck/api"
)

// P8.2: the children of a node come before it, from left to right, apart from those that the chapter puts into another order.
func TestOrderOfNodes(t *testing.T) {
	for _, expression := range []string{
		"(1 `+ true) and (true + 1)",
		"1 + (true `+ 1)",
		"if 1 then 2 `+ true else 3 + true",
		"(| 1 => 2, 3 `+ true => 4 + true |)",
		"(| 1 => 2, true => 3 `+ true |)",
		"<x + true | x <- <1 `+ true>>",
		"{x + true | x <- {1 `+ true}}",
		"{|x + true | x <- {1 `+ true}|}",
		"<1 + true | x `+ 1, y + true>",
		"<1 + true | `<1, true> <- <1 + true>>",
		"<1 + true | <x, 1> <- <1 `+ true>>",
		"<1 + true | x <- <>, x `+ true, x + 1>",
		"(\\ `<1, true>, x @ 1 + true)(2 + true)",
		"(\\ x, `<1, true> @ 1 + true)(2 + true)",
		"(\\ x @ 1 `+ true)(2 + true)",
		"(1 `+ true)(2 + true)",
		"1(2 `+ true)",
		"let v = 1 `+ true within 2 + true",
		"1 [| {1 `+ true} |] 1",
		"1 [{1 `+ true} || {2 + true}] 1",
		"1 [1 `<-> a, 1 + true <-> a] 1",
		"1 [a <-> a, 1 `+ true <-> a] 1",
		"1 [a <-> 1 `+ true] 1",
		"1 [a `<-> 1] (2 + true)",
		"1 [a <-> a] (2 `+ true)",
		"(1 `+ true)[[a <- 1]]",
		"1[[a `<- 1]]",
		"1[[a <- 1 | `2]]",
		"1[[a <- 1 | x `<- 2, 3]]",
		"1[[1 `<- a, 1 + true <- a]]",
		"1[[a <- 1 `+ true]]",
		"`[| 1 |] x : 2 @ 3 + true",
		"[| 1 `+ true |] x : 2 @ 3 + true",
		"[| {a} |] x `: 2 @ 3 + true",
		"[+ {a} +] x : {2} @ 3 `+ true",
		"|| x `: 2 @ [1 + true] 3 + true",
		"`|| x : {2} @ [1] 3 + true",
		"|| x : {2} @ [{a}] 3 `+ true",
		"[] x : {2}, `3 @ 4 + true",
		"(1 `+ true) -> 1",
		"1 `-> 1 + true",
		"a`?x -> 1 + true",
		"a`?x:1 + true -> 1",
		"c`?<x>:1 + true -> 1",
		"c?x`!true -> 1 + true",
		"c?`<1, true>!true -> STOP",
		"c!(1 `+ true)!true -> STOP",
		"d?x:{1 `+ true}!1 -> 1",
		"d`?x:1!true -> 1",
	} {
		wantError(t, api.ErrType, "channel a", "channel c : {0..1}", "channel d : {0..1}.{0..1}", "f = let", "    y = 1", "    x = 1", "  within "+expression)
	}
}

// P8.2: the equations of a node are solved from left to right. (Otherwise f would have another error.)
func TestOrderOfEquations(t *testing.T) {
	wantError(t, api.ErrType, "f(x) = `<1, true, x, <x>>")
	wantError(t, api.ErrInfinite, "f(x) = `<x, <x>, 1>")
	wantError(t, api.ErrInfinite, "f(x, y) = `(| x => 1, <x> => true |)")
	wantError(t, api.ErrType, "f(x, y) = `(| x => 1, y => true, <x> => 1 |)")
	wantError(t, api.ErrInfinite, "f(x, y) = `(| x => 1, <x> => true, y => true |)")
	wantError(t, api.ErrType, "f(x) = `if 1 then x else <x>")
	wantError(t, api.ErrInfinite, "f(x) = `if true then x else <x>")
	wantError(t, api.ErrType, "f(x) = (\\ y, z @ 1)`(1)")
	wantError(t, api.ErrInfinite, "f(x) = (\\ y @ <x, y>)`(<x>)")
}

// P8.2: classes are reduced after a group, in the order in which they were required.
func TestOrderOfClasses(t *testing.T) {
	wantError(t, api.ErrType, "f = (STOP == STOP, 1 `+ true)")
	wantError(t, api.ErrClass, "f = STOP `== STOP", "g = 1 + true")
	wantError(t, api.ErrType, "g = 1 `+ true", "f = STOP == STOP")
	wantError(t, api.ErrType, "f(x) = (STOP == STOP, g(x))", "g(x) = (1 `+ true, f(x))")
	wantError(t, api.ErrClass, "f = (STOP `== STOP, {STOP})")
	wantError(t, api.ErrClass, "f = {STOP `== STOP}")
	wantError(t, api.ErrClass, "f = `card({STOP})")
	wantError(t, api.ErrClass, "f = (`member)(STOP, {STOP})")
	wantError(t, api.ErrClass, "f(x) = (x `== x, x < x, x ; x)")
	wantError(t, api.ErrClass, "f(x) = (x == x, x `< x, union(x, x))", "g = 1 + true")
	wantError(t, api.ErrClass, "f(x) = (x `== x, let g = x < x within x ; x)")
	wantError(t, api.ErrClass, "f(x) = (let g = x `< x within x ; x, x == x)")
	wantError(t, api.ErrClass, "f(x) = let g = STOP `== STOP within 1 + true")
	wantError(t, api.ErrClass, "f(x) = let (g, _) = (STOP `== STOP, 1) within 1 + true")
	wantError(t, api.ErrClass, "f(x) = let (true, _) = (STOP `== STOP, 1) within {STOP}")
	wantError(t, api.ErrType, "f(x) = let", "    (true, _) = (STOP == STOP, 1)", "    g = 1 `+ true", "  within g")
	wantError(t, api.ErrClass, "datatype T = A.{STOP `== STOP}", "datatype U = B.1")
	wantError(t, api.ErrType, "datatype T = A.{STOP == STOP}.`1")
	wantError(t, api.ErrClass, "assert if STOP `== STOP then STOP else STOP :[deadlock free]", "assert 1 :[deadlock free]")
	wantError(t, api.ErrType, "`assert if STOP == STOP then 1 else 1 :[deadlock free]")
	wantError(t, api.ErrClass, "assert 1 + true :[deadlock free]", "f = STOP `== STOP")
}

// P8.1, P8.2: what is left of the classes of a declaration, group or assertion of the program is dropped.
func TestDroppedClasses(t *testing.T) {
	wantSchemes(t, lines(
		"channel c : {}",
		"f1 = c!STOP -> STOP",
		"nametype N = {}",
		"(v, w) = (<>, {})",
		"f2 = (v == v, w == w, N == N)",
		"f3 = <STOP>^v",
		"(true, _) = (w == w, 1)",
		"assert if w == w then STOP else STOP :[deadlock free]",
		"assert STOP :[has trace]: (\\ x @ <>)(<w, head(<f4>), N>)",
		"f4 :: {Proc}",
		"f4 = head(<>)",
		"assert STOP :[has trace]: <>",
	),
		"c: 0 (Proc => Event)", "v: 0 <Proc>", "w: 0 {Proc}", "N: 0 {Proc}",
	)
}
