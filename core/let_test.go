package core_test

import "testing"

// P13.1: the bindings of a Let. Their slots are added before the code of all of them.
func TestBindings(t *testing.T) {
	wantBody(t, "f = let x = 1 within x", "let1(i1 s0)")
	wantBody(t, lines("f(z) = let", "    x = <y, z>", "    y = #x", "  within (x, y, z)"), "clause(tuple(v let2(seq(s3 s1) #(s2) tuple(s2 s3 s1))))")
	wantBody(t, lines("f(z) = let", "    x = let y = z within x + y", "    u = let v = x within v", "  within (x, u)"), "clause(tuple(v let2(let1(s1 +(s2 s4)) let1(s2 s4) tuple(s2 s3))))")
	wantBody(t, "f = (let x = 1 within x, let y = 2 within y)", "tuple(let1(i1 s0) let1(i2 s0))")
	wantBody(t, "f(z) = <let x = y within x + z | y <- <z>>", "clause(tuple(v comp4(gen(v seq(s1)) let1(s2 +(s3 s1)))))")
	wantBody(t, "f = let x = let y = let z = 1 within z within y within x", "let1(let1(let1(i1 s2) s1) s0)")
}

// P13.1: the Binds of a Let: the expression, and a CodeSelect for each variable.
func TestBindsOfLets(t *testing.T) {
	wantBody(t, lines("f = let", "    (x, y) = (1, 2 + x)", "  within y"), "let3(tuple(i1 +(i2 s1)) select(s0 TUPLE(v v) s3) select(s0 TUPLE(v v) s4) s2)")
	wantBody(t, lines("f = let", "    u = 1", "    <x>^y = z", "    z = <u>", "    (_, 1) = (x, u)", "  within y"), "let6(i1 s4 select(s1 CAT1(v v) s6) select(s1 CAT1(v v) s7) seq(s0) tuple(s2 s0) s3)")
	wantBody(t, "f = let 1 = 2 within 3", "let1(i2 i3)")
	wantFuncs(t, lines("channel a", "f(z) = let", "    (P, Q) = (STOP, z)", "  within a -> P"), "f/1P: clause(tuple(v let3(tuple(STOP s1) select(s2 TUPLE(v v) s5) select(s2 TUPLE(v v) s6) prefix(n0 proc1(s3)))))", "/1P: s0")
}

// P13.1: the functions of a Let that have parameters or are process functions are lifted. A Let with no other bindings is its expression.
func TestFunctionsOfLets(t *testing.T) {
	wantFuncs(t, "f = let g(x) = x within g(1)", "f/0: call1(i1)", "g/1: clause(tuple(v s1))")
	wantFuncs(t, "f = let g(x) = x within g", "f/0: fun1", "g/1: clause(tuple(v s1))")
	wantFuncs(t, "f = let P = STOP within P", "f/0P: proc1", "P/0P: STOP")
	wantFuncs(t, "f = let P(x) = STOP within P(1)", "f/0P: proc1(i1)", "P/1P: clause(tuple(v STOP))")
	wantFuncs(t, "f = let g = \\ x @ STOP within g(1)", "f/0P: let1(fun1 apply(s0 i1))", "/1: clause(tuple(v STOP))")
	wantFuncs(t, "f = let P = P within P", "f/0: let1(s0 s0)")
	wantFuncs(t, lines("f(z) = let", "    g :: (Int) -> Int", "    g(x) = x + y + z", "    y = 1", "    P = (y == 1) & Q", "    Q = P [] STOP", "  within (g(y), P)"),
		"f/1: clause(tuple(v let1(i1 tuple(call1(s1 s2 s2) proc2(s2)))))", "g/3: clause(tuple(v +(+(s3 s1) s0)))", "P/1P: if(==(s0 i1) proc3(s0) STOP)", "Q/1P: extern(proc2(s0) STOP)")
}
