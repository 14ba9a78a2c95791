package infer_test

import (
	"testing"

	"cspcheck/api"
)

// P8.1: the types of constructors, channels, Datas and Nametypes.
func TestTypesOfDeclarations(t *testing.T) {
	wantSchemes(t, lines(
		"datatype D = A | B.N.{(true, 0)} | C.D.E | F.{B}",
		"nametype N = {x | x <- {0..3}, x > 1}",
		"channel c, d : {0}.D.Bool",
		"channel e",
		"channel h : Set(N)",
		"nametype M = D",
		"nametype L = Events",
		"datatype E = G.{c} | H.{c, c}.L",
		"channel i : let f(u) = {u} within f(f(1))",
		"nametype K = {}",
	),
		"D: 0 {D}", "E: 0 {E}",
		"N: 0 {Int}", "M: 0 {D}", "L: 0 {Event}", "K: 0 {t0}",
		"A: 0 D", "B: 0 (Int => ((Bool, Int) => D))", "C: 0 (D => (E => D))", "F: 0 ((Int => ((Bool, Int) => D)) => D)",
		"c, d: 0 (Int => (D => (Bool => Event)))",
		"e: 0 Event",
		"h: 0 ({Int} => Event)",
		"G: 0 ((Int => (D => (Bool => Event))) => E)",
		"H: 0 ((Int => (D => (Bool => Event))) => (Event => E))",
		"i: 0 ({Int} => Event)", "f: 1 (t0) -> {t0} t0:Set", "u: 0 t0", "x: 0 Int",
	)
}

// P8.1: a type of elements that is not known at first is found later, and is the same for all uses.
func TestTypesOfElementsFoundLater(t *testing.T) {
	wantSchemes(t, lines(
		"channel c, d : {}.{}",
		"datatype D = A.{}",
		"nametype N = {}",
		"f1 = c!<>?x -> d?y!true -> STOP",
		"f2(v) = (A.v, #v)",
		"f3(w) = <c, w>",
		"f4(v) = (v, N)",
		"f5 = <N, {{1}}>",
	),
		"c, d: 0 (<t0> => (Bool => Event))",
		"A: 0 (<t0> => D)",
		"x: 0 Bool", "y: 0 <t0>",
		"f2: 0 (<t0>) -> (D, Int)",
		"f3: 0 ((<t0> => (Bool => Event))) -> <(<t0> => (Bool => Event))>",
		"N: 0 {{Int}}",
		"f4: 1 (t0) -> (t0, {{Int}})",
	)
	wantError(t, api.ErrType, "channel c, d : {}", "f = c!1 -> d`!true -> STOP")
}

// P8.2: a Field, part or Expr that is no set.
func TestErrorsOfSets(t *testing.T) {
	for _, expression := range []string{"`1", "`<0>", "`STOP", "`(1, 2)", "1 `+ 1", "`\\ x @ {x}"} {
		wantError(t, api.ErrType, "datatype D = A.("+expression+")")
		wantError(t, api.ErrType, "channel c : "+expression)
		wantError(t, api.ErrType, "channel c : {0}.("+expression+")")
		wantError(t, api.ErrType, "channel c : ("+expression+").{0}")
	}
	wantError(t, api.ErrType, "`nametype N = 1")
	wantError(t, api.ErrType, "`nametype N = <0>")
	wantError(t, api.ErrInfinite, "`nametype N = {N}")
	wantError(t, api.ErrInfinite, "datatype D = A.`{A}")
	wantError(t, api.ErrInfinite, "channel c : {0}.`{c}")
}

// processes returns a Let whose type is a set of processes, although nothing in it needs that they can be elements.
func processes() string {
	return lines("`let", "          f :: {Proc}", "          f = head(<>)", "        within f")
}

// P8.2: the elements of a Field, part or Expr must belong to Set. The class is dropped after the declaration.
func TestClassesOfSets(t *testing.T) {
	wantError(t, api.ErrClass, "datatype D = A."+lines("(", "        "+processes(), "      )"))
	wantError(t, api.ErrClass, "channel c : "+processes())
	wantError(t, api.ErrClass, "`nametype N = "+processes()[1:])
	wantError(t, api.ErrClass, "channel c : N", "`nametype N = "+processes()[1:])
	wantError(t, api.ErrClass, "nametype N = `{STOP}")
	wantSchemes(t, lines("channel c : {}", "f = c!STOP -> STOP"), "c: 0 (Proc => Event)")
	wantSchemes(t, lines("nametype N = {}", "f = <N, head(<>)>", "g = <N, head(<h>)>", "h :: {Proc}", "h = head(<>)"), "N: 0 {Proc}")
}

// P8.2: Datas, Nametypes and Channels are processed in preorder, before all others.
func TestOrderOfDeclarations(t *testing.T) {
	wantError(t, api.ErrType, "f = 1 + true", "assert 1 + true :[deadlock free]", "channel c : `1")
	wantError(t, api.ErrType, "f = 1 + true", "datatype D = A | B.{0}.`1.{1 + true} | C.2", "channel c : 1")
	wantError(t, api.ErrType, "`nametype N = 1", "datatype D = A.1", "channel c : 1")
	wantError(t, api.ErrType, "channel c : `1", "nametype N = 1", "datatype D = A.1")
	wantError(t, api.ErrType, "channel c : {0}.`1.{1 + true}.2", "nametype N = 1")
	wantError(t, api.ErrType, "assert 1 + true :[deadlock free]", "f = 1 `+ true")
}

// P8.2: these declarations use no functions and variables of the program.
func TestErrorsOfUses(t *testing.T) {
	program := lines("g = 1", "h(x) = {x}", "(v, w) = (1, 2)") + "\n"
	for _, expression := range []string{
		"{`g}", "`h(1)", "{`v}", "{0, `w, g}", "{x | x <- {`g}}", "{y | y <- {0}, `g}", "let f(z) = `h(z) within {0}", "card(`g)", "{1, `g, 1 + true}",
	} {
		wantError(t, api.ErrState, program+"channel c : "+expression)
		wantError(t, api.ErrState, program+"datatype D = A.("+expression+")")
		wantError(t, api.ErrState, program+"nametype N = "+expression)
	}
	wantError(t, api.ErrType, program+"channel c : {1 `+ true, g}")
	wantNoError(t, program+"nametype N = let g = 1 within {g}")
	wantNoError(t, program+"channel c : {v | v <- {0}}")
	wantNoError(t, program+"channel c : {(\\ g @ g)(1)}")
}

// P8.2: no Dots but those between the parts of a Channel. They are found before their parts are processed.
func TestErrorsOfDotsInDeclarations(t *testing.T) {
	for _, expression := range []string{
		"{B`.0}", "({0}`.{1})", "{(1 + true)`.0}", "{0`.(1 + true)}", "{x | (x`.y) <- {0}}", "let f(z) = z`.0 within {0}",
	} {
		wantError(t, api.ErrType, "datatype T = B.{0}", "channel c : {0}.("+expression+")")
		wantError(t, api.ErrType, "datatype T = B.{0}", "datatype D = A.("+expression+")")
		wantError(t, api.ErrType, "datatype T = B.{0}", "nametype N = "+expression)
	}
	wantError(t, api.ErrType, "nametype N = {0}.{1}`.{2}")
	wantError(t, api.ErrType, "channel c : {1 `+ true, 1.0}")
	wantNoError(t, "channel c : {0}.{0}.{0}")
	wantNoError(t, "channel c : ({0}.{0}).{0}")
}

// P8.1: the names of modules and of timed sections have types like all others.
func TestTypesOfExpandedPrograms(t *testing.T) {
	wantSchemes(t, lines(
		"channel tock, a",
		"channel c : {0..3}",
		"time(e) = 1",
		"module M(k)",
		"  datatype D = A.{0..1}",
		"exports",
		"  g :: b -> (b, D)",
		"  g(x) = (x, A.k)",
		"endmodule",
		"instance I = M(1)",
		"f = I::g(true)",
		"Timed (time)",
		"  P(n) = c?m -> P(m) [] a -> STOP",
		"endtimed",
	),
		"I::k: 0 Int", "I::D: 0 {I::D}", "I::A: 0 (Int => I::D)", "I::g: 1 (t0) -> (t0, I::D)", "f: 0 (Bool, I::D)",
		"time, Timed::delay0: 1 (t0) -> Int", "Timed::wait: 0 (Int, Proc) -> Proc", "Timed::union: 1 ({t0}, {t0}) -> {t0} t0:Set",
		"P: 0 (Int) -> Proc", "Timed::here: 0 Proc",
	)
	wantError(t, api.ErrType, "module M(k)", "  x = k `+ 1", "endmodule", "instance I = M(1)", "instance J = M(true)")
	wantError(t, api.ErrType, "channel tock, a", "time(e) = true", "Timed (time)", "  P = a `-> P", "endtimed")
}
