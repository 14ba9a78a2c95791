package infer_test

import (
	"strings"
	"testing"

	"cspcheck/api"
)

// row is an expression of an operator with its operands $1, $2, .., a mark at its node, and the type of the function that has the operands as its parameters.
type row struct {
	expression string
	want       string
}

// rows returns expressions of all operators whose operands have types that do not depend on each other.
func rows() []row {
	l := []row{
		{"`-$1", "0 (Int) -> Int"},
		{"`#$1", "1 (<t0>) -> Int"},
		{"`not $1", "0 (Bool) -> Bool"},
		{"`<$1 ..>", "0 (Int) -> <Int>"},
		{"`<$1 .. $2>", "0 (Int, Int) -> <Int>"},
		{"`{$1 .. $2}", "0 (Int, Int) -> {Int}"},
		{"$1 `^ $2", "1 (<t0>, <t0>) -> <t0>"},
		{"$1 `& $2", "0 (Bool, Proc) -> Proc"},
		{"`if $1 then $2 else $2", "1 (Bool, t0) -> t0"},
		{"$1 `[| $2 |> $3", "0 (Proc, {Event}, Proc) -> Proc"},
		{"$1 `[+ $2 +] $3", "0 (Proc, {Event}, Proc) -> Proc"},
		{"$1 `[| $2 |] $3", "0 (Proc, {Event}, Proc) -> Proc"},
		{"$1 `[ $2 || $3 ] $4", "0 (Proc, {Event}, {Event}, Proc) -> Proc"},
		{"$1 `\\ $2", "0 (Proc, {Event}) -> Proc"},
		{"`prioritise($1, $2)", "0 (Proc, {(Event, Event)}) -> Proc"},
		{"`chase($1)", "0 (Proc) -> Proc"},
		{"$1`[[a <- a]]", "0 (Proc) -> Proc"},
		{"STOP[[$1 `<- $2]]", "0 (Event, Event) -> Proc"},
		{"$1 `[a <-> a] $2", "0 (Proc, Proc) -> Proc"},
		{"STOP [$1 `<-> $2] STOP", "0 (Event, Event) -> Proc"},
		{"`[] _ : {0} @ $1", "0 (Proc) -> Proc"},
		{"`|~| _ : {0} @ $1", "0 (Proc) -> Proc"},
		{"`||| _ : {0} @ $1", "0 (Proc) -> Proc"},
		{"`; _ : <> @ $1", "0 (Proc) -> Proc"},
		{"`[| $1 |] _ : {0} @ $2", "0 ({Event}, Proc) -> Proc"},
		{"`[+ $1 +] _ : {0} @ $2", "0 ({Event}, Proc) -> Proc"},
		{"`|| _ : {0} @ [$1] $2", "0 ({Event}, Proc) -> Proc"},
		{"<1 | `$1>", "0 (Bool) -> <Int>"},
		{"{1 | `$1}", "0 (Bool) -> {Int}"},
		{"{|a | `$1|}", "0 (Bool) -> {Event}"},
		{"STOP[[a <- a | `$1]]", "0 (Bool) -> Proc"},
		{"[] `$1 @ STOP", "0 (Bool) -> Proc"},
		{"<1 | _ `<- $1>", "1 (<t0>) -> <Int>"},
		{"; _ `<- $1 @ STOP", "1 (<t0>) -> Proc"},
		{"{1 | _ `<- $1}", "1 ({t0}) -> {Int} t0:Set"},
		{"{|a | _ `: $1|}", "1 ({t0}) -> {Event} t0:Set"},
		{"STOP[[a <- a | _ `<- $1]]", "1 ({t0}) -> Proc t0:Set"},
		{"a `-> $1", "0 (Proc) -> Proc"},
		{"$1 `-> STOP", "0 (Event) -> Proc"},
	}
	for _, op := range []string{"*", "/", "%", "+", "-"} {
		l = append(l, row{"$1 `" + op + " $2", "0 (Int, Int) -> Int"})
	}
	for _, op := range []string{"and", "or"} {
		l = append(l, row{"$1 `" + op + " $2", "0 (Bool, Bool) -> Bool"})
	}
	for _, op := range []string{";", "[]", "|~|", "/\\", "[>", "|||"} {
		l = append(l, row{"$1 `" + op + " $2", "0 (Proc, Proc) -> Proc"})
	}
	for _, op := range []string{"[]", "|~|", "|||", "[| {a} |]", "[+ {a} +]"} {
		l = append(l, row{op + " _ `: $1 @ STOP", "1 ({t0}) -> Proc t0:Set"})
	}
	return append(l, row{"|| _ `: $1 @ [{a}] STOP", "1 ({t0}) -> Proc t0:Set"})
}

// fill puts operands into an expression.
func fill(expression string, operands ...string) string {
	var l []string
	for k, x := range operands {
		l = append(l, "$"+string(rune('1'+k)), x)
	}
	return strings.NewReplacer(l...).Replace(expression)
}

// P8.1: the type of a node and those of its operands.
func TestTypesOfOperators(t *testing.T) {
	for _, r := range rows() {
		operands := strings.Count(r.expression, "$") - strings.Count(r.expression, "$2 else")
		parameters := []string{"x", "y", "z", "u"}[:operands]
		expression := strings.Replace(r.expression, "`", "", 1)
		src := lines("channel a", "f("+strings.Join(parameters, ", ")+") = "+fill(expression, parameters...))
		wantSchemes(t, src, "f: "+r.want)
	}
}

// P8.2: an operand of another type is an error at the node that requires its type.
func TestErrorsOfOperators(t *testing.T) {
	for _, r := range rows() {
		for k := range 4 {
			operand := "$" + string(rune('1'+k))
			if !strings.Contains(r.expression, operand) || strings.Contains(r.expression, operand+" else") {
				continue
			}
			wrong := strings.Replace(r.expression, operand, "(1, 1)", 1)
			wantError(t, api.ErrType, "channel a", "f(x, y, z, u) = "+fill(wrong, "x", "y", "z", "u"))
		}
	}
}

// P8.1: the types of the operators whose operands have types that depend on each other.
func TestTypesOfOtherOperators(t *testing.T) {
	for expression, want := range map[string]string{
		"1":                        "4 (t0, t1, t2, t3) -> Int",
		"true":                     "4 (t0, t1, t2, t3) -> Bool",
		"false":                    "4 (t0, t1, t2, t3) -> Bool",
		"STOP":                     "4 (t0, t1, t2, t3) -> Proc",
		"SKIP":                     "4 (t0, t1, t2, t3) -> Proc",
		"DIV":                      "4 (t0, t1, t2, t3) -> Proc",
		"x":                        "4 (t0, t1, t2, t3) -> t0",
		"(y, x, x)":                "4 (t0, t1, t2, t3) -> (t1, t0, t0)",
		"<x, y, z>":                "2 (t0, t0, t0, t1) -> <t0>",
		"<>":                       "5 (t0, t1, t2, t3) -> <t4>",
		"{x, y, z}":                "2 (t0, t0, t0, t1) -> {t0} t0:Set",
		"{}":                       "5 (t0, t1, t2, t3) -> {t4} t4:Set",
		"(| x => y, z => u |)":     "2 (t0, t1, t0, t1) -> (|t0 => t1|) t0:Set",
		"(| |)":                    "6 (t0, t1, t2, t3) -> (|t4 => t5|) t4:Set",
		"{|x, y|}":                 "2 (Event, Event, t0, t1) -> {Event}",
		"{| |}":                    "4 (t0, t1, t2, t3) -> {Event}",
		"{|v | v <- x|}":           "3 ({Event}, t0, t1, t2) -> {Event}",
		"<(v, w) | v <- x, w : y>": "4 (<t0>, <t1>, t2, t3) -> <(t0, t1)>",
		"{(v, y) | v <- x}":        "4 ({t0}, t1, t2, t3) -> {(t0, t1)} t0:Set t1:Set",
		"x(y, z)":                  "4 ((t0, t1) -> t2, t0, t1, t3) -> t2",
		"x()":                      "4 (() -> t0, t1, t2, t3) -> t0",
		"x == y":                   "3 (t0, t0, t1, t2) -> Bool t0:Eq",
		"x != y":                   "3 (t0, t0, t1, t2) -> Bool t0:Eq",
		"x < y":                    "3 (t0, t0, t1, t2) -> Bool t0:Ord",
		"x <= y":                   "3 (t0, t0, t1, t2) -> Bool t0:Ord",
		"x > y":                    "3 (t0, t0, t1, t2) -> Bool t0:Ord",
		"x >= y":                   "3 (t0, t0, t1, t2) -> Bool t0:Ord",
		"x @@ y":                   "3 (t0, t0, t1, t2) -> t0",
		"x.y.z":                    "4 (t0, t1, t2, t3) -> ((t0.t1).t2)",
		"x.(y.z)":                  "4 (t0, t1, t2, t3) -> (t0.(t1.t2))",
		"if x == y then z else u":  "2 (t0, t0, t1, t1) -> t1 t0:Eq",
		"\\ v, w @ (w, x)":         "6 (t0, t1, t2, t3) -> (t4, t5) -> (t5, t0)",
		"let v = x within <v>":     "4 (t0, t1, t2, t3) -> <t0>",
		"(x == y, x < y, {x})":     "3 (t0, t0, t1, t2) -> (Bool, Bool, {t0}) t0:Eq+Ord+Set",
	} {
		wantSchemes(t, "f(x, y, z, u) = "+expression, "f: "+want)
	}
}

// P8.2: operands whose types do not belong together are errors at the node.
func TestErrorsOfOtherOperators(t *testing.T) {
	for _, expression := range []string{
		"`<x, 1, true>", "`{1, x, true}", "`(| 1 => 1, true => x |)", "`(| 1 => 1, x => true |)",
		"1`(2)", "card`({1}, {2})", "card`(1)", "(x(1), x`(true))", "(x(1), x`())", "(x(1), x`(1, 2))",
		"1 `== true", "1 `!= true", "1 `< true", "1 `<= true", "1 `> true", "1 `>= true", "1 `@@ true",
		"`if true then 1 else true", "`if x then x else 1",
		"`{|1|}", "({|x|}, `{|x, <x>|})", "({|x|}, x `== 1)", "`{|1 | v <- x|}", "`{|v | v <- {STOP}|}",
		"`_", "<`_>", "`_ -> STOP", "(`_, 1 + true)", "(1 `+ true, _)",
	} {
		wantError(t, api.ErrType, "f(x) = "+expression)
	}
	wantError(t, api.ErrInfinite, "f(x) = x`(x)")
	wantError(t, api.ErrInfinite, "f(x) = `<x, <x>>")
	wantError(t, api.ErrInfinite, "f(x, y) = (x == y, x `== (y, 1))")
}
