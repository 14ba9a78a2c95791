package infer_test

import (
	"testing"

	"cspcheck/api"
)

// P8.1: a declared type with the declared classes becomes that of the function.
func TestSignatures(t *testing.T) {
	wantSchemes(t, lines(
		"datatype T = A",
		"f1 :: (<a>, {b}, (| c => d |), (a, Int), (a, b) -> c, a . b, a => Event, T) -> {Bool}",
		"f1(x1, x2, x3, x4, x5, x6, x7, x8) = {}",
		"f2(x, y) = y",
		"f2 :: (Eq z, Set y, Ord z, Eq z) => (y, z) -> z",
		"f3 :: Int -> Int",
		"f3(x) = x",
		"f4 :: (Eq b) => a -> a",
		"f4 = \\ x @ x",
		"f5 :: (Set a, Eq a) => {a} -> Bool",
		"f5(x) = x == {}",
		"f6 :: <(a, Proc)>",
		"f6 = <>",
		"f7 :: (Ord b, Ord a) => (b, a) -> Bool",
		"f7(x, y) = <x> < <> and y < y",
		"f8 :: Int -> Proc",
		"f8(x) = f9(x)",
		"f9(x) = f8(x)",
		"f10(x) = let",
		"    g :: a -> (a, Int)",
		"    g(y) = (y, x + 1)",
		"    h :: (Set a) => a -> {a}",
		"    h(y) = {y}",
		"  within (g(1), g(true), h(1), h(true))",
	),
		"f1: 4 (<t0>, {t1}, (|t2 => t3|), (t0, Int), (t0, t1) -> t2, (t0.t1), (t0 => Event), T) -> {Bool}",
		"f2: 2 (t0, t1) -> t1 t0:Set t1:Eq+Ord",
		"f3: 0 (Int) -> Int",
		"f4: 1 (t0) -> t0",
		"f5: 1 ({t0}) -> Bool t0:Eq+Set",
		"f6: 1 <(t0, Proc)>",
		"f7: 2 (t0, t1) -> Bool t0:Ord t1:Ord",
		"f8: 0 (Int) -> Proc",
		"f9: 2 (t0) -> t1",
		"g: 1 (t0) -> (t0, Int)", "h: 1 (t0) -> {t0} t0:Set",
	)
	wantError(t, api.ErrType, "f :: Int -> Int", "f(x) = x", "g = f`(true)")
	wantError(t, api.ErrClass, "f :: (Eq a) => a -> a", "f(x) = x", "g = `f(STOP)")
}

// P8.2: a declared type must be an instance of the inferred one.
func TestTypesOfSignatures(t *testing.T) {
	for sig, expression := range map[string]string{
		"Bool":             "1",
		"a":                "1",
		"<a>":              "<1>",
		"a -> a":           "\\ x @ x + 1",
		"a -> b":           "\\ x @ x",
		"(a, b) -> a":      "\\ x, y @ y",
		"(a, b)":           "<>",
		"(a, a) -> a":      "\\ x @ x",
		"T":                "A2",
		"Event":            "T",
		"{T2}":             "T",
		"Int => Event":     "a",
		"Proc":             "a",
		"a -> (b, a) -> c": "\\ x @ \\ y @ y",
	} {
		wantError(t, api.ErrType, "channel a", "datatype T = A1", "datatype T2 = A2", "`f :: "+sig, "f = "+expression)
		wantError(t, api.ErrType, "channel a", "datatype T = A1", "datatype T2 = A2", "g = let", "    f = "+expression, "    `f :: "+sig, "  within 1 + true")
	}
	wantError(t, api.ErrType, "f(x) = let", "    `g :: a -> b", "    g(y) = x", "  within g(1)")
	wantError(t, api.ErrType, "f(x) = let", "    `g :: a -> Int", "    g(y) = x", "  within g(x + 1)")
}

// P8.2: the classes that a declared type needs must be declared, each by itself.
func TestClassesOfSignatures(t *testing.T) {
	for _, sig := range []string{"a -> Bool", "(Ord a) => a -> Bool", "(Set a) => a -> Bool", "(Eq b) => a -> Bool", "Proc -> Bool", "(Eq a) => <(a, b)> -> Bool", "(Eq a) => (Int -> a) -> Bool"} {
		wantError(t, api.ErrClass, "`f :: "+sig, "f = \\ x @ x == x")
	}
	for _, sig := range []string{"a -> Bool", "(Eq a, Set a) => a -> Bool", "(Ord a) => {a} -> Bool", "Event -> Bool", "{Int} -> Bool"} {
		wantError(t, api.ErrClass, "`f :: "+sig, "f = \\ x @ x < x")
	}
	for _, sig := range []string{"a -> {a}", "(Eq a, Ord a) => a -> {a}", "Proc -> {Proc}"} {
		wantError(t, api.ErrClass, "`f :: "+sig, "f = \\ x @ {x}")
	}
	wantError(t, api.ErrClass, "`f :: (Eq a) => a -> Bool", "f(x) = (\\ y @ x < y)(x) and x == x")
	wantNoError(t, "f :: (Eq a) => <{a}> -> Bool", "f(x) = x == x", "g :: (Ord a) => <(a, Int)> -> Bool", "g(x) = x < x", "h :: {Event} -> {{Event}}", "h(x) = {x}")
}

// P8.2: Sigs are checked in preorder, after the equations and classes of their group.
func TestOrderOfSignatures(t *testing.T) {
	wantError(t, api.ErrType, "f :: Int", "f = 1 `+ true")
	wantError(t, api.ErrClass, "f :: Int", "f = STOP `== STOP")
	wantError(t, api.ErrType, "`f :: Int", "f = true", "g = 1 + true")
	wantError(t, api.ErrType, "`g :: Int", "f :: Int", "f(x) = g(x)", "g(x) = f(x)")
	wantError(t, api.ErrClass, "`g :: a -> Bool", "f :: Int", "f(x) = g(x)", "g(x) = x == x or f(x)")
	wantError(t, api.ErrType, "g :: (Eq a) => a -> Bool", "`f :: Int", "f(x) = g(x)", "g(x) = x == x or f(x)")
	wantError(t, api.ErrFull, "`f :: "+big(3, "a"), "f = 1")
	wantError(t, api.ErrType, "`f :: "+big(2, "a"), "f = 1")
}

// P8.1, P8.2: the Sig of a variable of a Bind. Its variables are not quantified.
func TestSignaturesOfBinds(t *testing.T) {
	wantSchemes(t, lines(
		"v :: <Int>",
		"(v, w) = (<>, \\ x @ x)",
		"w :: a -> a",
		"f = w(1)",
		"(s, (u, _)) = ({}, (<>, 1))",
		"u :: <a>",
		"s :: (Set a) => {a}",
		"f2(x) = let",
		"    (y, z) = (x + 1, <>)",
		"    y :: Int",
		"    z :: <Bool>",
		"  within (y, z)",
	),
		"v: 0 <Int>", "w: 0 (Int) -> Int", "u: 0 <t0>", "s: 0 {t0}",
		"y: 0 Int", "z: 0 <Bool>", "f2: 0 (Int) -> (Int, <Bool>)",
	)
	wantError(t, api.ErrType, "(v, w) = (<>, 1)", "`w :: Bool")
	wantError(t, api.ErrType, "(v, w) = (<>, 1)", "`w :: a")
	wantError(t, api.ErrType, "(<v, w>, _) = (<>, 1)", "`w :: Int")
	wantError(t, api.ErrType, "f(x) = let", "    (v, _) = (x, 1)", "    `v :: Int", "  within v + 1")
	wantError(t, api.ErrClass, "(v, _) = ({}, 1)", "`v :: {a}")
	wantError(t, api.ErrClass, "(v, _) = ({}, 1)", "`v :: {Proc}")
	wantError(t, api.ErrType, "v :: <Int>", "(v, w) = (<>, \\ x @ x)", "f = v `^ <true>")
}
