package syntax_test

import "testing"

// P3.1, expressions

func TestPrimaries(t *testing.T) {
	for src, want := range map[string]string{
		"x":                        "Name x",
		"M::x":                     "Name M::x",
		"M :: x":                   "Name M::x",
		"0":                        "Int 0",
		"9223372036854775807":      "Int 9223372036854775807",
		"true":                     "True",
		"false":                    "False",
		"_":                        "Wild",
		"STOP":                     "Stop",
		"SKIP":                     "Skip",
		"DIV":                      "Div0",
		"((x))":                    "Name x",
		"(x, y)":                   "Tuple (Name x, Name y)",
		"((x, y), 1)":              "Tuple (Tuple (Name x, Name y), Int 1)",
		"(1,2,3,4,5,6,7,8)":        "Tuple (Int 1, Int 2, Int 3, Int 4, Int 5, Int 6, Int 7, Int 8)",
		"<>":                       "Seq",
		"<x>":                      "Seq (Name x)",
		"<1,2,3,4,5,6,7,8,9>":      "Seq (Int 1, Int 2, Int 3, Int 4, Int 5, Int 6, Int 7, Int 8, Int 9)",
		"<1..>":                    "SeqFrom (Int 1)",
		"<1..2>":                   "SeqTo (Int 1, Int 2)",
		"<x | x <- s, x < 3, y:t>": "SeqComp (Name x, Params (Gen (Name x, Name s), Lt (Name x, Int 3), Gen (Name y, Name t)))",
		"{}":                       "Set",
		"{x, y}":                   "Set (Name x, Name y)",
		"{1..2}":                   "SetTo (Int 1, Int 2)",
		"{x | x <- s}":             "SetComp (Name x, Params (Gen (Name x, Name s)))",
		"{x | b}":                  "SetComp (Name x, Params (Name b))",
		"{||}":                     "Events",
		"{|c, d.1|}":               "Events (Name c, Dot (Name d, Int 1))",
		"{|c.x | x <- {0..3}|}":    "EvComp (Dot (Name c, Name x), Params (Gen (Name x, SetTo (Int 0, Int 3))))",
		"(| |)":                    "Map",
		"(|1 => a, 2 => b|)":       "Map (Pair (Int 1, Name a), Pair (Int 2, Name b))",
		"chase(P)":                 "Chase (Name P)",
		"prioritise(P, O)":         "Prior (Name P, Name O)",
		"deterministic":            "Name deterministic",
	} {
		wantExpr(t, src, want)
	}
}

func TestBracketsContainExpressions(t *testing.T) {
	for src, want := range map[string]string{
		"(a -> P)":                          "Prefix (Name a, Name P)",
		"(\\ x @ x, if a then b else c)":    "Tuple (Lambda (Params (Name x), Name x), If (Name a, Name b, Name c))",
		"<P [] Q>":                          "Seq (Extern (Name P, Name Q))",
		"{P \\ A .. P ; Q}":                 "SetTo (Hide (Name P, Name A), Sequence (Name P, Name Q))",
		"{|P ||| Q|}":                       "Events (Inter (Name P, Name Q))",
		"(|a -> P => b & Q|)":               "Map (Pair (Prefix (Name a, Name P), Guard (Name b, Name Q)))",
		"chase(P |~| Q)":                    "Chase (Intern (Name P, Name Q))",
		"prioritise(P, if a then b else c)": "Prior (Name P, If (Name a, Name b, Name c))",
		"g(a -> P, let x = 1 within x)":     "Apply (Name g, Prefix (Name a, Name P), Let (Block (Fun x (Params, Int 1)), Name x))",
	} {
		wantExpr(t, src, want)
	}
}

func TestPostfixForms(t *testing.T) {
	for src, want := range map[string]string{
		"g()":             "Apply (Name g)",
		"g(1)(2, 3)":      "Apply (Apply (Name g, Int 1), Int 2, Int 3)",
		"M::g(1)":         "Apply (Name M::g, Int 1)",
		"(x, y)(1)":       "Apply (Tuple (Name x, Name y), Int 1)",
		"g((1, 2))":       "Apply (Name g, Tuple (Int 1, Int 2))",
		"-g(1)":           "Neg (Apply (Name g, Int 1))",
		"#g(1)":           "Len (Apply (Name g, Int 1))",
		"P[[a <- b]]":     "Rename (Name P, Params (Pair (Name a, Name b)))",
		"P(1)[[a<-b]](2)": "Apply (Rename (Apply (Name P, Int 1), Params (Pair (Name a, Name b))), Int 2)",
		"P[[a.x <- b.x, c <- d | x <- S, x > 0]]": "Rename (Name P, Params (Pair (Dot (Name a, Name x), Dot (Name b, Name x)), Pair (Name c, Name d), Gen (Name x, Name S), Gt (Name x, Int 0)))",
		"a.P[[b <- c]]": "Dot (Name a, Rename (Name P, Params (Pair (Name b, Name c))))",
	} {
		wantExpr(t, src, want)
	}
}

// levels are the operators from Hide to Unary, with the operators of nodes.
var levels = [][][2]string{
	{{"\\", "Hide"}},
	{{"|||", "Inter"}},
	{{"|~|", "Intern"}},
	{{"[]", "Extern"}},
	{{"[>", "Slide"}},
	{{"/\\", "Interrupt"}},
	{{";", "Sequence"}},
	{{"&", "Guard"}, {"->", "Prefix"}},
	{{"or", "Or"}},
	{{"and", "And"}},
	{{"==", "Eq"}, {"!=", "Ne"}, {"<", "Lt"}, {"<=", "Le"}, {">", "Gt"}, {">=", "Ge"}},
	{{"@@", "Both"}},
	{{".", "Dot"}},
	{{"^", "Cat"}},
	{{"+", "Add"}, {"-", "Sub"}},
	{{"*", "Mul"}, {"/", "Div"}, {"%", "Mod"}},
}

func TestTighterOperatorsComeFirst(t *testing.T) {
	for i, outer := range levels {
		for _, x := range outer {
			wantExpr(t, "a "+x[0]+" b", x[1]+" (Name a, Name b)")
			for _, inner := range levels[i+1:] {
				for _, y := range inner {
					wantExpr(t, "a "+x[0]+" b "+y[0]+" c", x[1]+" (Name a, "+y[1]+" (Name b, Name c))")
					wantExpr(t, "a "+y[0]+" b "+x[0]+" c", x[1]+" ("+y[1]+" (Name a, Name b), Name c)")
				}
			}
		}
	}
}

func TestOperatorsOfOneLevel(t *testing.T) {
	for _, level := range levels {
		for _, x := range level {
			for _, y := range level {
				src := "a " + x[0] + " b " + y[0] + " c"
				switch x[1] {
				case "Guard", "Prefix":
					wantExpr(t, src, x[1]+" (Name a, "+y[1]+" (Name b, Name c))")
				case "Eq", "Ne", "Lt", "Le", "Gt", "Ge":
					wantErrorAt(t, "f = a "+x[0]+" b `"+y[0]+" c", 2)
				default:
					wantExpr(t, src, y[1]+" ("+x[1]+" (Name a, Name b), Name c)")
				}
			}
		}
	}
}

func TestParenthesesGroup(t *testing.T) {
	wantExpr(t, "a * (b + c)", "Mul (Name a, Add (Name b, Name c))")
	wantExpr(t, "a ; (b ; c)", "Sequence (Name a, Sequence (Name b, Name c))")
	wantExpr(t, "(a -> P) -> Q", "Prefix (Prefix (Name a, Name P), Name Q)")
	wantExpr(t, "(a < b) < c", "Lt (Lt (Name a, Name b), Name c)")
	wantExpr(t, "a . (b . c)", "Dot (Name a, Dot (Name b, Name c))")
	wantExpr(t, "(a . b) . c", "Dot (Dot (Name a, Name b), Name c)")
	wantExpr(t, "(if a then b else c) [] P", "Extern (If (Name a, Name b, Name c), Name P)")
	wantExpr(t, "a == (if b then c else d)", "Eq (Name a, If (Name b, Name c, Name d))")
}

func TestUnaryOperators(t *testing.T) {
	for src, want := range map[string]string{
		"-1":              "Neg (Int 1)",
		"- -1":            "Neg (Neg (Int 1))",
		"#-#s":            "Len (Neg (Len (Name s)))",
		"-a*b":            "Mul (Neg (Name a), Name b)",
		"a*-b":            "Mul (Name a, Neg (Name b))",
		"a--b":            "Name a",
		"a- -b":           "Sub (Name a, Neg (Name b))",
		"-x.y@@z":         "Both (Dot (Neg (Name x), Name y), Name z)",
		"#s^t":            "Cat (Len (Name s), Name t)",
		"not a":           "Not (Name a)",
		"not not a":       "Not (Not (Name a))",
		"not a == b":      "Not (Eq (Name a, Name b))",
		"not a and b":     "And (Not (Name a), Name b)",
		"a and not b":     "And (Name a, Not (Name b))",
		"a or not b or c": "Or (Or (Name a, Not (Name b)), Name c)",
		"not -a":          "Not (Neg (Name a))",
		"not a & P":       "Guard (Not (Name a), Name P)",
		"not a . b":       "Not (Dot (Name a, Name b))",
	} {
		wantExpr(t, src, want)
	}
}

func TestGreedyForms(t *testing.T) {
	for src, want := range map[string]string{
		"\\ x @ x":                    "Lambda (Params (Name x), Name x)",
		"\\ x, <y>^s @ #s":            "Lambda (Params (Name x, Cat (Seq (Name y), Name s)), Len (Name s))",
		"\\a,b,c,d,e,f,g,h,i @ a":     "Lambda (Params (Name a, Name b, Name c, Name d, Name e, Name f, Name g, Name h, Name i), Name a)",
		"\\ x @ P \\ A":               "Lambda (Params (Name x), Hide (Name P, Name A))",
		"if a then b else c":          "If (Name a, Name b, Name c)",
		"if P ; Q then R \\ A else S": "If (Sequence (Name P, Name Q), Hide (Name R, Name A), Name S)",
		"if a then if b then c else d else if e then g else h ||| i": "If (Name a, If (Name b, Name c, Name d), If (Name e, Name g, Inter (Name h, Name i)))",
		"let x = 1 within x \\ A":                                    "Let (Block (Fun x (Params, Int 1)), Hide (Name x, Name A))",
		"P \\ \\ x @ Q \\ A":                                         "Hide (Name P, Lambda (Params (Name x), Hide (Name Q, Name A)))",
	} {
		wantExpr(t, src, want)
	}
	wantTree(t, lines("f = let x = 1", "        (y, z) = 2", "    within x", "g = 3"),
		"Fun f (Params, Let (Block (Fun x (Params, Int 1), Bind (Tuple (Name y, Name z), Int 2)), Name x)), Fun g (Params, Int 3)")
}

func TestGreedyFormsBehindOperators(t *testing.T) {
	forms := [][2]string{
		{"\\ x @ Q \\ A", "Lambda (Params (Name x), Hide (Name Q, Name A))"},
		{"if a then b else Q \\ A", "If (Name a, Name b, Hide (Name Q, Name A))"},
		{"let x = 1 within Q \\ A", "Let (Block (Fun x (Params, Int 1)), Hide (Name Q, Name A))"},
		{"[] x:S @ Q \\ A", "Repeat 79 (Params (Gen (Name x, Name S)), Hide (Name Q, Name A))"},
	}
	for _, x := range forms {
		for i, level := range levels {
			for _, y := range level {
				if i <= 7 {
					wantExpr(t, "P "+y[0]+" "+x[0], y[1]+" (Name P, "+x[1]+")")
				} else {
					wantErrorAt(t, "f = P "+y[0]+" `"+x[0], 2)
				}
			}
		}
		wantExpr(t, "P [| A |] "+x[0], "Parallel (Name P, Name A, "+x[1]+")")
		wantExpr(t, "P [| A |> "+x[0], "Throw (Name P, Name A, "+x[1]+")")
		wantExpr(t, "P [ A || B ] "+x[0], "Alpha (Name P, Name A, Name B, "+x[1]+")")
		wantExpr(t, "P [ a <-> b ] "+x[0], "Link (Name P, Params (Pair (Name a, Name b)), "+x[1]+")")
		wantExpr(t, "P [+ A +] "+x[0], "Sync (Name P, Name A, "+x[1]+")")
		wantExpr(t, "c?x -> "+x[0], "Prefix (Name c, Input (Name x), "+x[1]+")")
		wantErrorAt(t, "f = - `"+x[0], 2)
		wantErrorAt(t, "f = not `"+x[0], 2)
		wantErrorAt(t, "f = {x | x <- `"+x[0]+"}", 2)
		wantErrorAt(t, "f = {x | `"+x[0]+"}", 2)
		wantErrorAt(t, "f = c!`"+x[0], 2)
	}
}

func TestReplicatedOperators(t *testing.T) {
	for src, want := range map[string]string{
		"[] x:S @ P":               "Repeat 79 (Params (Gen (Name x, Name S)), Name P)",
		"|~| x:S @ P":              "Repeat 80 (Params (Gen (Name x, Name S)), Name P)",
		"||| x<-S @ P":             "Repeat 90 (Params (Gen (Name x, Name S)), Name P)",
		"; x:s @ P":                "Repeat 78 (Params (Gen (Name x, Name s)), Name P)",
		"[|A|] x:S @ P":            "Repeat 88 (Name A, Params (Gen (Name x, Name S)), Name P)",
		"[+ A +] x:S @ P":          "Repeat 84 (Name A, Params (Gen (Name x, Name S)), Name P)",
		"|| x:S @ [A] P":           "Repeat 89 (Params (Gen (Name x, Name S)), Name A, Name P)",
		"[] x:S, x > 0, y:T @ P":   "Repeat 79 (Params (Gen (Name x, Name S), Gt (Name x, Int 0), Gen (Name y, Name T)), Name P)",
		"[] (x, y.z) : S or T @ P": "Repeat 79 (Params (Gen (Tuple (Name x, Dot (Name y, Name z)), Or (Name S, Name T))), Name P)",
		"[] b @ P":                 "Repeat 79 (Params (Name b), Name P)",
		"[] not b, x @@ 1 : S @ P": "Repeat 79 (Params (Not (Name b), Gen (Both (Name x, Int 1), Name S)), Name P)",
		"[] x:S @ P [] Q":          "Repeat 79 (Params (Gen (Name x, Name S)), Extern (Name P, Name Q))",
		"P [] [] x:S @ Q":          "Extern (Name P, Repeat 79 (Params (Gen (Name x, Name S)), Name Q))",
		"(|~| x:S @ P)":            "Repeat 80 (Params (Gen (Name x, Name S)), Name P)",
		"[|P \\ A|] x:S @ P":       "Repeat 88 (Hide (Name P, Name A), Params (Gen (Name x, Name S)), Name P)",
		"|| x:S @ [P \\ A] P":      "Repeat 89 (Params (Gen (Name x, Name S)), Hide (Name P, Name A), Name P)",
		"[] -1 : S @ P":            "Repeat 79 (Params (Gen (Neg (Int 1), Name S)), Name P)",
		"; x:s @ ; y:t @ P":        "Repeat 78 (Params (Gen (Name x, Name s)), Repeat 78 (Params (Gen (Name y, Name t)), Name P))",
	} {
		wantExpr(t, src, want)
	}
}

func TestParallelOperators(t *testing.T) {
	for src, want := range map[string]string{
		"P [|A|] Q":                            "Parallel (Name P, Name A, Name Q)",
		"P [|A|> Q":                            "Throw (Name P, Name A, Name Q)",
		"P [A||B] Q":                           "Alpha (Name P, Name A, Name B, Name Q)",
		"P [a <-> b] Q":                        "Link (Name P, Params (Pair (Name a, Name b)), Name Q)",
		"P [a.1 <-> b, (c == d) <-> -e^g] Q":   "Link (Name P, Params (Pair (Dot (Name a, Int 1), Name b), Pair (Eq (Name c, Name d), Cat (Neg (Name e), Name g))), Name Q)",
		"P [a.1 <-> b.2, c.3 <-> d.4] Q":       "Link (Name P, Params (Pair (Dot (Name a, Int 1), Dot (Name b, Int 2)), Pair (Dot (Name c, Int 3), Dot (Name d, Int 4))), Name Q)",
		"P [(a \\ b) <-> c] Q":                 "Link (Name P, Params (Pair (Hide (Name a, Name b), Name c)), Name Q)",
		"P [not a || if b then c else d] Q":    "Alpha (Name P, Not (Name a), If (Name b, Name c, Name d), Name Q)",
		"P [if a then b else c || d] Q":        "Alpha (Name P, If (Name a, Name b, Name c), Name d, Name Q)",
		"P [a -> b \\ c || d] Q":               "Alpha (Name P, Hide (Prefix (Name a, Name b), Name c), Name d, Name Q)",
		"P [|A|] Q [|B|> R [C||D] S [e<->g] T": "Link (Alpha (Throw (Parallel (Name P, Name A, Name Q), Name B, Name R), Name C, Name D, Name S), Params (Pair (Name e, Name g)), Name T)",
		"P |~| Q [|A|] R |~| S":                "Parallel (Intern (Name P, Name Q), Name A, Intern (Name R, Name S))",
		"P ||| Q [|A|] R ||| S":                "Inter (Inter (Name P, Parallel (Name Q, Name A, Name R)), Name S)",
		"P [+A+] Q":                            "Sync (Name P, Name A, Name Q)",
		"P [] Q [+A+] R [] S":                  "Extern (Sync (Extern (Name P, Name Q), Name A, Name R), Name S)",
		"P [+A+] Q [> R":                       "Sync (Name P, Name A, Slide (Name Q, Name R))",
		"P [|A \\ B|] Q":                       "Parallel (Name P, Hide (Name A, Name B), Name Q)",
	} {
		wantExpr(t, src, want)
	}
}

func TestPrefixes(t *testing.T) {
	for src, want := range map[string]string{
		"a -> P":                         "Prefix (Name a, Name P)",
		"a.1 -> b -> P":                  "Prefix (Dot (Name a, Int 1), Prefix (Name b, Name P))",
		"c?x!y$z -> P":                   "Prefix (Name c, Input (Name x), Output (Name y), Some (Name z), Name P)",
		"c?x:S$y:T -> P":                 "Prefix (Name c, Input (Name x, Name S), Some (Name y, Name T), Name P)",
		"c?x:S+T*2!(1+2) -> P":           "Prefix (Name c, Input (Name x, Add (Name S, Mul (Name T, Int 2))), Output (Add (Int 1, Int 2)), Name P)",
		"c?(x, y)?<z>?_?1?true -> P":     "Prefix (Name c, Input (Tuple (Name x, Name y)), Input (Seq (Name z)), Input (Wild), Input (Int 1), Input (True), Name P)",
		"c?(x.y)?(-1)?({x})$(x@@y) -> P": "Prefix (Name c, Input (Dot (Name x, Name y)), Input (Neg (Int 1)), Input (Set (Name x)), Some (Both (Name x, Name y)), Name P)",
		"c!STOP!M::x -> P":               "Prefix (Name c, Output (Stop), Output (Name M::x), Name P)",
		"a or b?x -> P":                  "Prefix (Or (Name a, Name b), Input (Name x), Name P)",
		"a & b -> c & P":                 "Guard (Name a, Prefix (Name b, Guard (Name c, Name P)))",
		"c?a?b?c?d?e?f?g?h -> P":         "Prefix (Name c, Input (Name a), Input (Name b), Input (Name c), Input (Name d), Input (Name e), Input (Name f), Input (Name g), Input (Name h), Name P)",
		"a -> P ; b -> Q":                "Sequence (Prefix (Name a, Name P), Prefix (Name b, Name Q))",
	} {
		wantExpr(t, src, want)
	}
}

func TestGreaterEndsASequence(t *testing.T) {
	for src, want := range map[string]string{
		"<a>":                             "Seq (Name a)",
		"<a> > b":                         "Gt (Seq (Name a), Name b)",
		"<a, b> > <c>":                    "Gt (Seq (Name a, Name b), Seq (Name c))",
		"<a < b>":                         "Seq (Lt (Name a, Name b))",
		"<a >= b, a <= b>":                "Seq (Ge (Name a, Name b), Le (Name a, Name b))",
		"<<a>, <b>>":                      "Seq (Seq (Name a), Seq (Name b))",
		"<a < <b>>":                       "Seq (Lt (Name a, Seq (Name b)))",
		"<(a > b), c>":                    "Seq (Gt (Name a, Name b), Name c)",
		"<{a > b}>":                       "Seq (Set (Gt (Name a, Name b)))",
		"<{|a > b|}>":                     "Seq (Events (Gt (Name a, Name b)))",
		"<(|a > b => c > d|)>":            "Seq (Map (Pair (Gt (Name a, Name b), Gt (Name c, Name d))))",
		"<g(a > b)>":                      "Seq (Apply (Name g, Gt (Name a, Name b)))",
		"<(a > b, c > d)>":                "Seq (Tuple (Gt (Name a, Name b), Gt (Name c, Name d)))",
		"<chase(a > b)>":                  "Seq (Chase (Gt (Name a, Name b)))",
		"<prioritise(a > b, c > d)>":      "Seq (Prior (Gt (Name a, Name b), Gt (Name c, Name d)))",
		"<P [|a > b|] Q>":                 "Seq (Parallel (Name P, Gt (Name a, Name b), Name Q))",
		"<P [|a > b|> Q>":                 "Seq (Throw (Name P, Gt (Name a, Name b), Name Q))",
		"<P [+a > b+] Q>":                 "Seq (Sync (Name P, Gt (Name a, Name b), Name Q))",
		"<P [a > b || c > d] Q>":          "Seq (Alpha (Name P, Gt (Name a, Name b), Gt (Name c, Name d), Name Q))",
		"<P [[a <- b | a > b]]>":          "Seq (Rename (Name P, Params (Pair (Name a, Name b), Gt (Name a, Name b))))",
		"<P [(a > b) <-> c] Q>":           "Seq (Link (Name P, Params (Pair (Gt (Name a, Name b), Name c)), Name Q))",
		"<[|a > b|] x:S @ P>":             "Seq (Repeat 88 (Gt (Name a, Name b), Params (Gen (Name x, Name S)), Name P))",
		"<[+a > b+] x:S @ P>":             "Seq (Repeat 84 (Gt (Name a, Name b), Params (Gen (Name x, Name S)), Name P))",
		"<|| x:S @ [a > b] P>":            "Seq (Repeat 89 (Params (Gen (Name x, Name S)), Gt (Name a, Name b), Name P))",
		"<if (a > b) then c else d>":      "Seq (If (Gt (Name a, Name b), Name c, Name d))",
		"<a ..> > b":                      "Gt (SeqFrom (Name a), Name b)",
		"<a .. b> > c":                    "Gt (SeqTo (Name a, Name b), Name c)",
		"<a | b> > c":                     "Gt (SeqComp (Name a, Params (Name b)), Name c)",
		"{<a> > b, c > d}":                "Set (Gt (Seq (Name a), Name b), Gt (Name c, Name d))",
		"g(<a>, b > c)":                   "Apply (Name g, Seq (Name a), Gt (Name b, Name c))",
		"<let f(x) = x within f>":         "Seq (Let (Block (Fun f (Params (Name x), Name x)), Name f))",
		"<let f(<x>) = {x > 1} within f>": "Seq (Let (Block (Fun f (Params (Seq (Name x)), Set (Gt (Name x, Int 1)))), Name f))",
	} {
		wantExpr(t, src, want)
	}
	wantTree(t, "f(x) = {x > 1}\ng = <f> > x", "Fun f (Params (Name x), Set (Gt (Name x, Int 1))), Fun g (Params, Gt (Seq (Name f), Name x))")
	for _, src := range []string{
		"f = <a > `b>", "f = <if a `> b then c else d>", "f = <\\ x `> y @ z>", "f = <\\ x @ x > `y>", "f = <[] x `> 1 @ P>", "f = <[] x:S @ a > `b>",
		"f = <let x = a `> b within x>", "f = <let g(a `> b) = 1 within x>", "f = <let instance I = M(a `> b) within x>", "f = <x | x <- a > `b>",
		"f = <x | x <- s, a > `b>", "f = <a .. b > `c>", "f = <c?x:a `> b -> P>", "f = <P [|A|] a > `b>", "f = <g(1) > `b>", "f = <(a) > `b>", "f = <{<a > `b>}>",
	} {
		wantErrorAt(t, src, 2)
	}
}
