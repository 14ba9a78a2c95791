package core_test

import "testing"

// P13.1: captured symbols are the first parameters, ascending. What a function declares itself is not captured.
func TestCapturedVariables(t *testing.T) {
	wantFuncs(t, "f(x, y, z) = \\ u @ (z, x, u)", "f/3: clause(tuple(v v v fun1(s3 s5)))", "/3: clause(tuple(v tuple(s1 s0 s3)))")
	wantFuncs(t, "f(x) = \\ y @ \\ z @ (x, z)", "f/1: clause(tuple(v fun1(s1)))", "/2: clause(tuple(v fun2(s0)))", "/2: clause(tuple(v tuple(s0 s2)))")
	wantFuncs(t, "f(x) = \\ x @ \\ y @ x", "f/1: clause(tuple(v fun1))", "/1: clause(tuple(v fun2(s1)))", "/2: clause(tuple(v s0))")
	wantFuncs(t, "f(x) = \\ y @ <z | z <- <y>, w <- <x>>", "f/1: clause(tuple(v fun1(s1)))", "/2: clause(tuple(v comp4(gen(v seq(s2)) gen(v seq(s0)) s3)))")
	wantFuncs(t, "f = let x = \\ y @ x(y) within x", "f/0: let1(fun1(s0) s0)", "/2: clause(tuple(v apply(s0 s2)))")
	wantFuncs(t, lines("f(x) = let", "    (y, z) = (x, \\ u @ (u, y, v))", "    v = 1", "  within z"), "f/1: clause(tuple(v let4(tuple(s1 fun1(s3 s5)) select(s2 TUPLE(v v) s6) select(s2 TUPLE(v v) s7) i1 s4)))", "/3: clause(tuple(v tuple(s3 s0 s1)))")
}

// P13.1: a function captures what the functions capture whose names occur in it, directly or not, in itself or in what is inside.
func TestCapturedByUse(t *testing.T) {
	wantFuncs(t, lines("f(x, y) = let", "    g(u) = h(u)", "    h(u) = k(u)", "    k(u) = (x, u)", "    l(u) = u", "  within (g(1), l)"),
		"f/2: clause(tuple(v v tuple(call1(s2 i1) fun4)))", "g/2: clause(tuple(v call2(s0 s2)))", "h/2: clause(tuple(v call3(s0 s2)))", "k/2: clause(tuple(v tuple(s0 s2)))", "l/1: clause(tuple(v s1))")
	wantFuncs(t, lines("f(x, y) = let", "    g(u) = (x + h(u))", "    h(u) = (y + g(u))", "  within h"),
		"f/2: clause(tuple(v v fun2(s2 s3)))", "g/3: clause(tuple(v +(s0 call2(s0 s1 s3))))", "h/3: clause(tuple(v +(s1 call1(s0 s1 s3))))")
	wantFuncs(t, lines("f(x) = let", "    g(u) = \\ w @ h(w)", "    h(u) = x", "  within g"),
		"f/1: clause(tuple(v fun1(s1)))", "g/2: clause(tuple(v fun3(s0)))", "h/2: clause(tuple(v s0))", "/2: clause(tuple(v call2(s0 s2)))")
	wantFuncs(t, lines("f(x) = let", "    g(u) = let", "        h(v) = (u, x)", "      within (h(1), \\ w @ h(w))", "  within g"),
		"f/1: clause(tuple(v fun1(s1)))", "g/2: clause(tuple(v tuple(call2(s0 s2 i1) fun3(s0 s2))))", "h/3: clause(tuple(v tuple(s1 s0)))", "/3: clause(tuple(v call2(s0 s1 s3)))")
}

// P13.1: all clauses of a function count, and the bindings of Lets are captured like other variables.
func TestCapturedInClauses(t *testing.T) {
	wantFuncs(t, lines("f(x, y) = let", "    g(1) = x", "    g(2) = y", "    g(z) = z", "  within g"),
		"f/2: clause(tuple(v v fun1(s2 s3)))", "g/3: clause(tuple(I1 s0) tuple(I2 s1) tuple(v s3))")
	wantFuncs(t, lines("f = let", "    x = 1", "    g(1) = h(2)", "    g(2) = 3", "    h(1) = 2", "    h(_) = x", "  within g(x)"),
		"f/0: let1(i1 call1(s0 s0))", "g/2: clause(tuple(I1 call2(s0 i2)) tuple(I2 i3))", "h/2: clause(tuple(I1 i2) tuple(_ s0))")
	wantFuncs(t, lines("f(x) = let", "    g(u) = let", "        h(v) = g(v) + u", "      within h(1)", "    g(u) = x", "  within g(1)"),
		"f/1: clause(tuple(v call1(s1 i1)))", "g/2: clause(tuple(v call2(s0 s2 i1)) tuple(v s0))", "h/3: clause(tuple(v +(call1(s0 s3) s1)))")
}

// P13.1: a continuation captures what is free in it: not what only the event or the fields need.
func TestCapturedByContinuations(t *testing.T) {
	wantFuncs(t, lines("channel c : {0}.{0}", "P(x, y, p) = c!y?z -> c.x.z -> p"), "/0: set(i0)", "/0: set(i0)", "P/3P: clause(tuple(v v v prefix(n0 out(s4) in(v) proc3(s3 s5 s6))))", "/3P: prefix(dot(dot(n0 s0) s2) proc4(s1))", "/1P: s0")
	wantFuncs(t, lines("channel a", "f(x) = let", "    P = a -> Q", "    Q = (x == 1) & P", "  within a -> P"), "f/1P: clause(tuple(v prefix(n0 proc3(s1))))", "P/1P: prefix(n0 proc4(s0))", "Q/1P: if(==(s0 i1) proc1(s0) STOP)", "/1P: proc1(s0)", "/1P: proc2(s0)")
	wantFuncs(t, lines("channel a", "f(x) = a -> (|~| y : {x} @ a -> (let z = y within P(z))) [] P(x)", "P(x) = STOP"),
		"f/1P: clause(tuple(v extern(prefix(n0 proc2(s1)) proc1(s1))))", "P/1P: clause(tuple(v STOP))", "/1P: repeat.intern(gen(v set(s0)) prefix(n0 proc3(s1)))", "/1P: let1(s0 proc1(s1))")
}

// Every function is a value with its captured symbols, also one whose name occurs as an argument or in a Let inside of itself.
func TestFunctionsAsValues(t *testing.T) {
	wantFuncs(t, lines("f(x) = let", "    g(u) = x", "    P = STOP [] h(g) [] P", "    h(k) = P", "  within (g, P, h)"), "f/1: clause(tuple(v tuple(fun1(s1) proc2(s1) fun3(s1))))",
		"g/2: clause(tuple(v s0))", "P/1P: extern(extern(STOP proc3(s0 fun1(s0))) proc2(s0))", "h/2P: clause(tuple(v proc2(s0)))")
}
