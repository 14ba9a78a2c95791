package syntax_test

import (
	"strconv"
	"strings"
	"testing"

	"cspcheck/api"
	"cspcheck/syntax"
)

// wantPositions checks the positions of the nodes, written as the tree with the column of each node, behind the line if it is not 1; the zero Pos is a 0.
func wantPositions(t *testing.T, src, want string) {
	t.Helper()
	place := func(n api.Node) string {
		s := strconv.Itoa(n.Pos.Col)
		if n.Pos.Line > 1 {
			s = strconv.Itoa(n.Pos.Line) + ":" + s
		}
		return opName(n.Op) + " " + s
	}
	if got, _ := draw(source(t, src), place); got != "Program 1 ("+want+")" {
		t.Errorf("Source(%q):\n got %s\nwant Program 1 (%s)", src, got, want)
	}
}

// P3.1

func TestPositionsOfDeclarations(t *testing.T) {
	wantPositions(t, "f(x, y) = 1\n\n  \ng = 2", "Fun 1 (Params 0 (Name 3, Name 6), Int 11), Fun 4:1 (Params 0, Int 4:5)")
	wantPositions(t, "(x, y) = 1", "Bind 1 (Tuple 1 (Name 2, Name 5), Int 10)")
	wantPositions(t, "((x)).y = 1", "Bind 1 (Dot 6 (Name 3, Name 7), Int 11)")
	wantPositions(t, "datatype T = A | B.x.{y}", "Data 1 (Con 14, Con 18 (Name 20, Set 22 (Name 23)))")
	wantPositions(t, "nametype T = x.y", "Nametype 1 (Dot 15 (Name 14, Name 16))")
	wantPositions(t, "channel a, b : T", "Channel 1 (Name 9, Name 12, Name 16)")
	wantPositions(t, "module M(p)\n  x = 1\n  y = 2\nexports\n  z = 3\nendmodule", "Module 1 (Params 0 (Name 10), Block 2:3 (Fun 2:3 (Params 0, Int 2:7), Fun 3:3 (Params 0, Int 3:7)), Block 5:3 (Fun 5:3 (Params 0, Int 5:7)))")
	wantPositions(t, "instance I = M(1, 2)", "Instance 1 (Name 14, Params 0 (Int 16, Int 19))")
	wantPositions(t, "instance I = M", "Instance 1 (Name 14, Params 0)")
	wantPositions(t, "Timed (f)\n  x = 1\nendtimed", "Timed 1 (Name 8, Block 2:3 (Fun 2:3 (Params 0, Int 2:7)))")
	wantPositions(t, "assert not P [T= Q", "Refine 1 (Name 12, Name 18)")
	wantPositions(t, "assert P :[deterministic]", "Check 1 (Name 8)")
	wantPositions(t, "assert P :[has trace]: <a>", "Trace 1 (Name 8, Seq 24 (Name 25))")
	wantPositions(t, "\n\nf = 1", "Fun 3:1 (Params 0, Int 3:5)")
}

func TestPositionsOfTypes(t *testing.T) {
	wantPositions(t, "f :: (Eq a, Ord b) => a", "Sig 1 (Class 7 (TypeVar 10), Class 13 (TypeVar 17), TypeVar 23)")
	wantPositions(t, "f :: (a, b) -> c -> d", "Sig 1 (TypeFun 13 (TypeVar 7, TypeVar 10, TypeFun 18 (TypeVar 16, TypeVar 21)))")
	wantPositions(t, "f :: a.b.c => d", "Sig 1 (TypeExt 12 (TypeDot 9 (TypeDot 7 (TypeVar 6, TypeVar 8), TypeVar 10), TypeVar 15))")
	wantPositions(t, "f :: <({a}, (| b => c |))>", "Sig 1 (TypeSeq 6 (TypeTuple 7 (TypeSet 8 (TypeVar 9), TypeMap 13 (TypeVar 16, TypeVar 21))))")
	wantPositions(t, "f :: ((a))", "Sig 1 (TypeVar 8)")
}

func TestPositionsOfExpressions(t *testing.T) {
	for src, want := range map[string]string{
		"x + 1 * 2":              "Add 7 (Name 5, Mul 11 (Int 9, Int 13))",
		"(x + 1) * 2":            "Mul 13 (Add 8 (Name 6, Int 10), Int 15)",
		"((x))":                  "Name 7",
		"M :: x":                 "Name 5",
		"-x":                     "Neg 5 (Name 6)",
		"# x":                    "Len 5 (Name 7)",
		"not x":                  "Not 5 (Name 9)",
		"a or b and c":           "Or 7 (Name 5, And 12 (Name 10, Name 16))",
		"a == b":                 "Eq 7 (Name 5, Name 10)",
		"a.b.c":                  "Dot 8 (Dot 6 (Name 5, Name 7), Name 9)",
		"g(1)(2)":                "Apply 9 (Apply 6 (Name 5, Int 7), Int 10)",
		"P[[a <- b | x <- s]]":   "Rename 6 (Name 5, Params 0 (Pair 10 (Name 8, Name 13), Gen 19 (Name 17, Name 22)))",
		"(1, 2)":                 "Tuple 5 (Int 6, Int 9)",
		"<1, 2>":                 "Seq 5 (Int 6, Int 9)",
		"<1..>":                  "SeqFrom 5 (Int 6)",
		"<1..2>":                 "SeqTo 5 (Int 6, Int 9)",
		"<x | x <- s, b>":        "SeqComp 5 (Name 6, Params 0 (Gen 12 (Name 10, Name 15), Name 18))",
		"{1}":                    "Set 5 (Int 6)",
		"{1..2}":                 "SetTo 5 (Int 6, Int 9)",
		"{x | x : s}":            "SetComp 5 (Name 6, Params 0 (Gen 12 (Name 10, Name 14)))",
		"{|c|}":                  "Events 5 (Name 7)",
		"{|c | b|}":              "EvComp 5 (Name 7, Params 0 (Name 11))",
		"(| 1 => 2 |)":           "Map 5 (Pair 10 (Int 8, Int 13))",
		"chase(P)":               "Chase 5 (Name 11)",
		"prioritise(P, Q)":       "Prior 5 (Name 16, Name 19)",
		"STOP":                   "Stop 5",
		"if a then b else c":     "If 5 (Name 8, Name 15, Name 22)",
		"let x = 1 within x":     "Let 5 (Block 9 (Fun 9 (Params 0, Int 13)), Name 22)",
		"\\ x, y @ z":            "Lambda 5 (Params 0 (Name 7, Name 10), Name 14)",
		"[] x:S @ P":             "Repeat 5 (Params 0 (Gen 9 (Name 8, Name 10)), Name 14)",
		"[|A|] x:S @ P":          "Repeat 5 (Name 7, Params 0 (Gen 12 (Name 11, Name 13)), Name 17)",
		"|| x:S @ [A] P":         "Repeat 5 (Params 0 (Gen 9 (Name 8, Name 10)), Name 15, Name 18)",
		"a -> P":                 "Prefix 7 (Name 5, Name 10)",
		"c?x:S!1$y -> P":         "Prefix 15 (Name 5, Input 6 (Name 7, Name 9), Output 10 (Int 11), Some 12 (Name 13), Name 18)",
		"b & P":                  "Guard 7 (Name 5, Name 9)",
		"P ; Q \\ A":             "Hide 11 (Sequence 7 (Name 5, Name 9), Name 13)",
		"P [] Q [> R /\\ S":      "Extern 7 (Name 5, Slide 12 (Name 10, Interrupt 17 (Name 15, Name 20)))",
		"P |~| Q ||| R":          "Inter 13 (Intern 7 (Name 5, Name 11), Name 17)",
		"P [|A|] Q":              "Parallel 7 (Name 5, Name 9, Name 13)",
		"P [|A|> Q":              "Throw 7 (Name 5, Name 9, Name 13)",
		"P [A||B] Q":             "Alpha 7 (Name 5, Name 8, Name 11, Name 14)",
		"P [a<->b, c <-> d] Q":   "Link 7 (Name 5, Params 0 (Pair 9 (Name 8, Name 12), Pair 17 (Name 15, Name 21)), Name 24)",
		"P [+A+] Q":              "Sync 7 (Name 5, Name 9, Name 13)",
		"let x = 1 within (a.b)": "Let 5 (Block 9 (Fun 9 (Params 0, Int 13)), Dot 24 (Name 23, Name 25))",
	} {
		wantPositions(t, "f = "+src, "Fun 1 (Params 0, "+want+")")
	}
}

func TestTheProgramHasThePositionOfItsFirstToken(t *testing.T) {
	l := tokens("Open a = 1 Close")
	l[0].Pos = api.Pos{Line: 5, Col: 9}
	p, _, e := syntax.Parse(l)
	if e != api.OK || p[0].Pos != l[0].Pos || strings.Contains(drawing(p), "nothing") {
		t.Errorf("%v, error %d", p, e)
	}
}
