package core_test

import "testing"

// wantPattern checks the code of a pattern, and the slots of its variables: those of u, v and w, as far as it has them, are used in this order.
func wantPattern(t *testing.T, pattern, uses, want, slots string) {
	t.Helper()
	program := lines("f("+pattern+") = "+uses, "channel a", "channel c : {0}.{(0, 0)}", "datatype T = A | B.{0}.{{0}} | C.T", "g = A")
	wantBody(t, program, "clause(tuple("+want+" "+slots+"))")
}

// P13.1: patterns.
func TestPatterns(t *testing.T) {
	for _, test := range [][4]string{
		{"u", "u", "v", "s1"},
		{"_", "0", "_", "i0"},
		{"7", "0", "I7", "i0"},
		{"-7", "0", "I-7", "i0"},
		{"9223372036854775807", "0", "I9223372036854775807", "i0"},
		{"-9223372036854775807", "0", "I-9223372036854775807", "i0"},
		{"true", "0", "B1", "i0"},
		{"false", "0", "B0", "i0"},
		{"(u, _, v)", "(v, u)", "TUPLE(v _ v)", "tuple(s2 s1)"},
		{"<>", "0", "SEQ", "i0"},
		{"<u, 1, v>", "(v, u)", "SEQ(v I1 v)", "tuple(s2 s1)"},
		{"{}", "0", "SET", "i0"},
		{"{u}", "u", "SET(v)", "s1"},
		{"u @@ (v, w)", "(u, v, w)", "BOTH(v TUPLE(v v))", "tuple(s1 s2 s3)"},
		{"u.v", "(u, v)", "PAIR(v v)", "tuple(s1 s2)"},
		{"u.v.w", "(u, v, w)", "PAIR(PAIR(v v) v)", "tuple(s1 s2 s3)"},
		{"u.(v.w)", "(u, v, w)", "PAIR(v PAIR(v v))", "tuple(s1 s2 s3)"},
		{"(1, A).B", "0", "PAIR(TUPLE(I1 DOT2) DOT3)", "i0"},
		{"u.A", "u", "PAIR(v DOT2)", "s1"},
		{"u.A.v", "(u, v)", "PAIR(PAIR(v DOT2) v)", "tuple(s1 s2)"},
		{"A", "0", "DOT2", "i0"},
		{"a", "0", "DOT0", "i0"},
		{"c", "0", "DOT1", "i0"},
		{"c.u", "u", "DOT1(v)", "s1"},
		{"c.u.(v, w)", "(u, v, w)", "DOT1(v TUPLE(v v))", "tuple(s1 s2 s3)"},
		{"(c.0).u", "u", "DOT1(I0 v)", "s1"},
		{"B.u.{v}", "(u, v)", "DOT3(v SET(v))", "tuple(s1 s2)"},
		{"C.(C.u)", "u", "DOT4(DOT4(v))", "s1"},
		{"C.(B.u._) @@ v", "(u, v)", "BOTH(DOT4(DOT3(v _)) v)", "tuple(s1 s2)"},
	} {
		wantPattern(t, test[0], test[1], test[2], test[3])
	}
}

// P13.1: Cats become one pattern, whatever parentheses are in them.
func TestCatPatterns(t *testing.T) {
	for _, test := range [][4]string{
		{"<u>^v", "(u, v)", "CAT1(v v)", "tuple(s1 s2)"},
		{"u^<v>", "(u, v)", "CAT0(v v)", "tuple(s1 s2)"},
		{"<u>^_^<1, v>", "(u, v)", "CAT1(v _ I1 v)", "tuple(s1 s2)"},
		{"<1, u>^<v>^w", "(u, v, w)", "CAT3(I1 v v v)", "tuple(s1 s2 s3)"},
		{"<1, u>^(<v>^(w^<>))", "(u, v, w)", "CAT3(I1 v v v)", "tuple(s1 s2 s3)"},
		{"(u^<2>)^<3>^(<v>^<w>)", "(u, v, w)", "CAT0(v I2 I3 v v)", "tuple(s1 s2 s3)"},
		{"<u>^<v, 3>", "(u, v)", "SEQ(v v I3)", "tuple(s1 s2)"},
		{"<>^<>^<>", "0", "SEQ", "i0"},
		{"<>^u", "u", "CAT0(v)", "s1"},
		{"<u^<1>>^v", "(u, v)", "CAT1(CAT0(v I1) v)", "tuple(s1 s2)"},
		{"<<>^<u>>^<<1>^_>", "u", "SEQ(SEQ(v) CAT1(I1 _))", "s1"},
	} {
		wantPattern(t, test[0], test[1], test[2], test[3])
	}
}

// P13.1: patterns of several parameters, and of several clauses. Each clause has its variables in the slots behind the parameters.
func TestClauses(t *testing.T) {
	wantFuncs(t, "f(x, y) = (y, x)", "f/2: clause(tuple(v v tuple(s3 s2)))")
	wantFuncs(t, "f((x, y), 1, <z>^_) = (z, x)", "f/3: clause(tuple(TUPLE(v v) I1 CAT1(v _) tuple(s5 s3)))")
	wantFuncs(t, lines("f(1, x) = x", "f(x, y) = (y + x)", "f(_, _) = 0"), "f/2: clause(tuple(I1 v s2) tuple(v v +(s3 s2)) tuple(_ _ i0))")
	wantFuncs(t, "f = \\ x, (y, 1) @ (y, x)", "f/0: fun1", "/2: clause(tuple(v TUPLE(v I1) tuple(s3 s2)))")
	wantFuncs(t, lines("f(x) = let", "    g(1) = x", "    g(y) = y + x", "  within g(2)"), "f/1: clause(tuple(v call1(s1 i2)))", "g/2: clause(tuple(I1 s0) tuple(v +(s2 s0)))")
	wantFuncs(t, "f(a, b, c, d, e, g, h, i) = (a, i)", "f/8: clause(tuple(v v v v v v v v tuple(s8 s15)))")
}
