package infer_test

import (
	"testing"

	"cspcheck/api"
)

// P8.1: the types of the events and fields of prefixes.
func TestTypesOfPrefixes(t *testing.T) {
	wantSchemes(t, lines(
		constants(),
		"f1(e) = e -> STOP",
		"f2(e, y) = e?x!y$z -> f2(e, x)",
		"f3(e, y, s) = e?x:s!y -> STOP",
		"f4(y, s) = c!y$v:s?w -> STOP",
		"f5(y, s) = c.y?_?o:s -> STOP",
		"f6(y) = c.y.true?<p> -> STOP",
		"f7 = c?q?r?_ -> if r then STOP else a -> STOP",
		"f8(e) = e?(k.l)!k -> l",
		"f9(m) = (\\ x @ x?n -> m(n))(c.1.true)",
	),
		"f1: 0 (Event) -> Proc",
		"f2: 2 ((t0 => (t0 => (t1 => Event))), t0) -> Proc",
		"f3: 2 ((t0 => (t1 => Event)), t1, {t0}) -> Proc",
		"f4: 0 (Int, {Bool}) -> Proc", "v: 0 Bool", "w: 0 <Int>",
		"f5: 0 (Int, {<Int>}) -> Proc", "o: 0 <Int>",
		"f6: 0 (Int) -> Proc", "p: 0 Int",
		"f7: 0 Proc", "q: 0 Int", "r: 0 Bool",
		"f8: 1 (((t0.Proc) => (t0 => Event))) -> Proc",
		"f9: 0 ((<Int>) -> Proc) -> Proc", "n: 0 <Int>",
	)
}

// P8.2: fields that extend no event, and events that are not complete.
func TestErrorsOfPrefixes(t *testing.T) {
	for _, expression := range []string{
		"a`?x -> STOP", "a`!1 -> STOP", "a`$x -> STOP", "c.1.true.<1>`?x -> STOP", "c?x?y?z`?u -> STOP", "A`?x -> STOP", "1`?x -> STOP",
		"c`!true -> STOP", "c`?true -> STOP", "c`$<x> -> STOP", "c?x`!x -> STOP", "c?x`!1!x -> STOP", "c.1`.1 -> STOP",
		"c`?x:{true}!true -> STOP", "c`?x:<1>!true?y -> STOP", "c`$x:1 -> STOP", "c`?(x, y):{1} -> STOP", "c?x!true`?y:{1} -> STOP",
		"c `-> STOP", "c.1?x `-> STOP", "c?x?y `-> STOP", "B?x?y `-> STOP", "1 `-> STOP", "{a} `-> STOP",
		"a `-> 1", "c?x?y?z `-> x", "c?x?y?z -> x `-> STOP",
	} {
		wantError(t, api.ErrType, constants(), "f = "+expression)
	}
}
