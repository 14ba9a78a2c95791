package infer_test

import (
	"testing"

	"cspcheck/api"
)

// constants declares constructors and channels.
func constants() string {
	return lines(
		"channel a",
		"channel c : {0}.{true}.{<0>}",
		"datatype T = A | B.{0}.Bool | C.T",
	)
}

// P8.1: the types of constructors and channels, and what becomes of them when they are extended.
func TestTypesOfDots(t *testing.T) {
	wantSchemes(t, lines(
		constants(),
		"f1 = (a, c, A, B, C, T)",
		"f2 = (c.1, c.1.false, c.1.false.<>, B.1, B.1.true, C.A, C.(C.A))",
		"f3(x) = (c.x, B.x)",
		"f4(x, y) = x.y.c.1",
		"f5(x, y) = x.(y.(c.1))",
		"f6(x) = C.(B.1.x)",
		"f7(x, y) = {|c, c.1, c.x.y, c.1.true.<x>, a|}",
	),
		"f1: 0 (Event, (Int => (Bool => (<Int> => Event))), T, (Int => (Bool => T)), (T => T), {T})",
		"f2: 0 ((Bool => (<Int> => Event)), (<Int> => Event), Event, (Bool => T), T, T, T)",
		"f3: 0 (Int) -> ((Bool => (<Int> => Event)), (Bool => T))",
		"f4: 2 (t0, t1) -> (((t0.t1).(Int => (Bool => (<Int> => Event)))).Int)",
		"f5: 2 (t0, t1) -> (t0.(t1.(Bool => (<Int> => Event))))",
		"f6: 0 (Bool) -> T",
		"f7: 0 (Int, Bool) -> {Event}",
	)
}

// P8.1: patterns with constructors and channels have their types.
func TestTypesOfDotPatterns(t *testing.T) {
	wantSchemes(t, lines(
		constants(),
		"f1(A) = 1",
		"f1(B.x.y) = x",
		"f1(C.(C.z)) = f1(z)",
		"f2(c.x) = x",
		"f3(x.y) = (y, x)",
		"f4(x.A.B) = x",
		"f5(c) = 1",
	),
		"f1: 0 (T) -> Int", "x: 0 Int", "y: 0 Bool", "z: 0 T",
		"f2: 0 ((Bool => (<Int> => Event))) -> Int",
		"f3: 2 ((t0.t1)) -> (t1, t0)",
		"f4: 1 (((t0.T).(Int => (Bool => T)))) -> t0",
		"f5: 0 ((Int => (Bool => (<Int> => Event)))) -> Int",
	)
}

// P8.2: a part of another type, and a part that is left, are errors at the Dot of this part.
func TestErrorsOfDots(t *testing.T) {
	for _, expression := range []string{
		"c`.true", "c.1`.1", "c.1`.1.<>", "c.1.true`.1", "c.1.true.<1>`.1", "c.1.true.<1>`.1.2", "a`.1", "A`.1", "B.1.true`.A", "C`.(B.1)", "C`.B.1.true",
		"c.(1 `+ true).1", "c.1`.1.(1 + true)", "a.(1 `+ true)", "a`.1.(2 + true)",
		"x.(c`.true)", "x.y.(A`.1)", "c.(`_)", "x.(1 `+ true)",
	} {
		wantError(t, api.ErrType, constants(), "f(x, y) = "+expression)
	}
	wantError(t, api.ErrInfinite, "channel d : {}", "f = d`.d")
	for _, pattern := range []string{"c`.true", "a`.1", "B.x.y`.z", "C`.(B.x)"} {
		wantError(t, api.ErrType, constants(), "f("+pattern+") = 1 + true")
	}
}

// P8.1, P8.2: what ends in a variable is made to end in Event.
func TestEventsOfExtensions(t *testing.T) {
	wantSchemes(t, lines(
		constants(),
		"f1(x) = {|x|}",
		"f2(x) = (x?y -> x!y -> STOP, {|x|})",
		"f3(x, y) = if true then \\ z @ {|if true then x else z|} else \\ z @ {|y|}",
		"f4(x) = {|x, x|}",
		"f5(x, y) = ({|x|}, <x, y>)",
		"f6(x) = {|v | v <- {c, x}|}",
		"f7(x) = {|v | v <- {c.1, x}|}",
	),
		"f1: 0 (Event) -> {Event}",
		"f2: 1 ((t0 => Event)) -> (Proc, {Event})",
		"f4: 0 (Event) -> {Event}",
		"f5: 0 (Event, Event) -> ({Event}, <Event>)",
		"f6: 0 ((Int => (Bool => (<Int> => Event)))) -> {Event}",
		"f7: 0 ((Bool => (<Int> => Event))) -> {Event}",
	)
	for _, expression := range []string{
		"`{|B|}", "`{|B.1|}", "`{|A|}", "`{|1|}", "`{|{a}|}", "`{|a, c, A|}", "`{|\\ v @ a|}", "({|x|}, x`?v -> STOP)", "`{|v | v <- {A}|}", "{|a`.1|}",
	} {
		wantError(t, api.ErrType, constants(), "f(x) = "+expression)
	}
}
