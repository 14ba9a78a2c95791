package modules_test

import (
	"strings"
	"testing"

	"cspcheck/api"
)

// P4.2

func TestExpandRefusesInvalidTrees(t *testing.T) {
	one := node(api.OpInt, "")
	for _, p := range [][]api.Node{
		nil,
		{},
		{{Op: api.OpProgram}},
		{{Op: api.OpProgram, Kids: 1}},
		{{Op: api.OpProgram, Kids: -1}},
		program(fun("f", one), fun("let", one)),
		program(fun("M::x", one)),
		program(fun("f", node(api.OpName, "a::b::c"))),
		program(fun("f", node(api.OpName, "a::0"))),
		program(node(api.OpFun, "f", node(api.OpParams, "", node(api.OpName, "a::b")), one)),
		program(node(api.OpModule, "M", node(api.OpParams, ""))),
		program(node(api.OpInstance, "I", node(api.OpName, "M::N"), node(api.OpParams, ""))),
	} {
		wantErrorOf(t, p, api.Pos{}, api.ErrInvalid)
	}
}

func TestExpandRefusesDeclarationsInTheWrongPlace(t *testing.T) {
	everywhere := []string{"x = 1", "(x, y) = z", "x = 1\n  x :: Int"}
	inModules := []string{"datatype T = A", "nametype T = {1}", "channel c", "Timed (f)\n    x = 1\n   endtimed"}
	inPrograms := []string{"module N\n    x = 1\n   endmodule", "instance I = M", "assert P [T= P", "assert P :[deterministic]", "assert P :[has trace]: <>"}
	places := []struct {
		before, after string
		permits       [][]string
		refuses       [][]string
	}{
		{"z = let\n  ", "\n within 1", [][]string{everywhere}, [][]string{inModules, inPrograms}},
		{"Timed (f)\n  ", "\nendtimed", [][]string{everywhere}, [][]string{inModules, inPrograms}},
		{"module M\n  ", "\nendmodule", [][]string{everywhere, inModules}, [][]string{inPrograms}},
		{"module M\n  u = 1\nexports\n  ", "\nendmodule", [][]string{everywhere, inModules}, [][]string{inPrograms}},
	}
	for _, place := range places {
		for _, l := range place.permits {
			for _, s := range l {
				expand(t, source(t, place.before+s+place.after))
			}
		}
		for _, l := range place.refuses {
			for _, s := range l {
				wantError(t, place.before+"`"+s+place.after, api.ErrInvalid)
			}
		}
	}
	wantError(t, "module M\n  Timed (f)\n    `channel c\n  endtimed\nendmodule", api.ErrInvalid)
	wantError(t, "module M\n  x = let `datatype T = A within 1\nendmodule", api.ErrInvalid)
	wantError(t, "module M(p)\n  `assert p [T= p\nendmodule", api.ErrInvalid)
	for _, l := range [][]string{everywhere, inModules, inPrograms} {
		for _, s := range l {
			expand(t, source(t, strings.ReplaceAll(s, "\n  ", "\n")+"\nmodule M\n  x = 1\nendmodule"))
		}
	}
}

func TestExpandRefusesModulesWithTheSameName(t *testing.T) {
	one := "\n  x = 1\nendmodule"
	wantError(t, "module M"+one+"\n`module M"+one, api.ErrDuplicate)
	wantError(t, "module M"+one+"\n`instance M = M", api.ErrDuplicate)
	wantError(t, "module M"+one+"\ninstance I = M\n`instance I = M", api.ErrDuplicate)
	wantError(t, "module M"+one+"\ninstance I = M\n`module I"+one, api.ErrDuplicate)
	wantError(t, "module M"+one+"\n`instance M = N", api.ErrDuplicate)
	wantError(t, "module M"+one+"\n`module M\n  x = 1\n  channel x\nendmodule", api.ErrDuplicate)
	wantError(t, "instance M = M\n`module M"+one, api.ErrDuplicate)
	wantError(t, "z = M::y\nmodule M\n  x = 1\nexports\n  y = 1\nendmodule\n`module M"+one, api.ErrDuplicate)
	expand(t, source(t, "M = 1\nmodule M"+one+"\nI = 2\ninstance I = M"))
}

func TestExpandRefusesInstancesOfOtherThings(t *testing.T) {
	wantError(t, "`instance I = M", api.ErrName)
	wantError(t, "M = 1\n`instance I = M", api.ErrName)
	wantError(t, "module M\n  x = 1\nendmodule\ninstance I = M\n`instance J = I", api.ErrName)
	wantError(t, "`instance I = I", api.ErrName)
	wantError(t, "`instance I = N\nmodule M\n  module N\n    x = 1\n  endmodule\nendmodule", api.ErrName)
	wantError(t, "`instance I = M(1)", api.ErrName)
}

func TestExpandRefusesOtherNumbersOfArguments(t *testing.T) {
	module := func(parameters string) string { return "\nmodule M" + parameters + "\n  x = 1\nendmodule" }
	wantError(t, "`instance I = M(1)"+module(""), api.ErrType)
	wantError(t, "`instance I = M"+module("(p)"), api.ErrType)
	wantError(t, "`instance I = M(1, 2)"+module("(p)"), api.ErrType)
	wantError(t, "`instance I = M(1)"+module("(p, q)"), api.ErrType)
	wantError(t, "`instance I = M(1)"+module("(p, q)")+module("(p)"), api.ErrType)
	wantError(t, "instance I = M(1, N::x)"+module("(p, q)")+"\n`module M\n  x = 1\nendmodule\nmodule N\n  u = 1\nexports\n  x = 1\nendmodule", api.ErrDuplicate)
	expand(t, source(t, "instance I = M(1, 2, 3, 4, 5, 6, 7, 8)"+module("(a, b, c, d, e, f, g, h)")))
}

func TestExpandRefusesMembersWithTheSameName(t *testing.T) {
	for _, body := range []string{
		"x = 1\n  datatype x = A", "x = 1\n  datatype T = x", "x = 1\n  nametype x = T", "x = 1\n  channel c, x", "x = 1\n  (x, y) = z",
		"datatype T = T", "datatype T = A | A", "datatype T = A\n  datatype U = A", "datatype T = A\n  datatype T = B", "datatype T = A\n  channel T",
		"nametype T = U\n  nametype T = U", "nametype T = U\n  channel T", "channel c\n  channel d, c", "channel c, c : T",
		"(x, y) = z\n  <x> = z", "x(1) = 1\n  x(2) = 2\n  (x, y) = z",
		"x = 1\n  Timed (f)\n    (x, y) = z\n  endtimed", "channel c\n  Timed (f)\n    c = 1\n  endtimed",
		"x = 1\nexports\n  channel x", "channel x\nexports\n  x = 1", "datatype T = A\n  B = 1\nexports\n  datatype B = U",
	} {
		wantError(t, "`module M\n  "+body+"\nendmodule", api.ErrDuplicate)
		wantError(t, "y = 1\n`module M(p)\n  "+body+"\nendmodule", api.ErrDuplicate)
	}
	for _, body := range []string{"p = 1", "(p, q) = r", "datatype p = A", "datatype T = p", "channel p", "nametype p = T", "x = 1\nexports\n  p = 1", "Timed (f)\n    p = 1\n  endtimed"} {
		wantError(t, "`module M(p)\n  "+body+"\nendmodule", api.ErrDuplicate)
	}
	wantError(t, "`module M(p, q, p)\n  x = 1\nendmodule", api.ErrDuplicate)
	wantError(t, "`module M\n  x = let channel c within 1\n  channel x\nendmodule", api.ErrDuplicate)
}

func TestExpandPermitsTheseMembers(t *testing.T) {
	for _, body := range []string{
		"f(1) = 1\n  f(2) = 2", "f = 1\n  g = 2\n  f = 3", "f(1) = 1\nexports\n  f(2) = 2", "f = 1\n  Timed (f)\n    f = 2\n  endtimed",
		"(x, x) = y", "x(y) = let y = 1 within y\n  y = 1", "x :: Int\n  x :: Int\n  x = 1",
		"datatype T = A\n  (A, y) = z\n  (A, x) = z", "channel c\n  <c> = z",
	} {
		expand(t, source(t, "module M\n  "+body+"\nendmodule"))
	}
	expand(t, source(t, "module M\n  A = 1\n  (A, y) = z\nendmodule\ndatatype T = A"))
	expand(t, source(t, "module M\n  A = 1\nendmodule\nmodule N\n  A = 1\nendmodule\nA = 1\nchannel c"))
	wantError(t, "`module M\n  A = 1\n  (A, y) = z\nendmodule\nmodule N\n  datatype T = A\nendmodule", api.ErrDuplicate)
}

func TestExpandRefusesNamesThatAreNotExported(t *testing.T) {
	m := "module M\n  x = 1\nexports\n  y = 1\nendmodule\n"
	p := "module P(p)\n  x = p\nexports\n  y = 1\nendmodule\ninstance I = P(1)\n"
	for _, name := range []string{"M::x", "M::z", "N::y", "P::y", "P::p", "I::x", "I::p", "I::q", "y::M"} {
		wantError(t, m+p+"z = `"+name, api.ErrName)
		wantError(t, "z = a.<`"+name+", N::y>\n"+m+p, api.ErrName)
		wantError(t, m+p+"module Q(q)\n  x = `"+name+"\nendmodule", api.ErrName)
		wantError(t, m+p+"instance J = P(`"+name+")", api.ErrName)
	}
	for _, name := range []string{"M::y", "I::y"} {
		expand(t, source(t, m+p+"z = "+name))
		expand(t, source(t, "z = "+name+"\n"+m+p))
	}
	wantError(t, "module M\n  y = `M::y\nendmodule", api.ErrName)
}

func TestNamesThatAreExported(t *testing.T) {
	exports := lines("module M(p)", "  f(1) = 1", "  a = 1", "exports", "  f(2) = 2", "  (u, v) = 1", "  datatype T = A | B", "  nametype N = T", "  channel c, d", "  Timed (g)", "    h = 1", "  endtimed", "  x :: Int", "  k = let q = 1 within q", "  e(r) = r", "endmodule", "instance I = M(1)", "")
	for _, name := range strings.Fields("f u v T A B N c d h k e") {
		expand(t, source(t, exports+"z = I::"+name))
	}
	for _, name := range strings.Fields("p a g x q r I M") {
		wantError(t, exports+"z = `I::"+name, api.ErrName)
	}
	wantError(t, lines("channel C", "module M", "  a = 1", "exports", "  (C, b) = 1", "endmodule", "z = `M::C"), api.ErrName)
}

func TestTheFirstErrorCounts(t *testing.T) {
	wantError(t, "z = `M::x\ninstance I = N\nmodule M\n  assert z [T= z\nendmodule", api.ErrName)
	wantError(t, "`instance I = N\nz = M::x", api.ErrName)
	wantError(t, "`module M\n  assert z [T= z\n  channel c, c\nendmodule", api.ErrDuplicate)
	wantError(t, "module M\n  `module M\n    channel c, c\n  endmodule\nendmodule", api.ErrInvalid)
	wantError(t, "x = let `instance I = M(1) within 1\nmodule M\n  x = 1\nendmodule", api.ErrInvalid)
	wantError(t, "instance I = M\n`instance I = M(1)\nmodule M\n  x = 1\nendmodule", api.ErrDuplicate)
	wantError(t, "`instance I = M(N::x)\nmodule M\n  x = 1\nendmodule", api.ErrType)
	wantError(t, "module M(p)\n  x = `N::x\nendmodule", api.ErrName)
}

func TestExpandRefusesProgramsWithoutDeclarations(t *testing.T) {
	wantErrorOf(t, source(t, "module M(p)\n  x = p\nendmodule"), api.Pos{}, api.ErrFull)
	wantErrorOf(t, source(t, "module M(p)\n  x = p\nendmodule\nmodule N(p)\n  x = p\nendmodule"), api.Pos{}, api.ErrFull)
	wantError(t, "module M(p)\n  x = `N::x\nendmodule", api.ErrName)
}

func TestExpandRefusesProgramsThatAreTooLarge(t *testing.T) {
	// A Channel with n names has n + 1 nodes.
	sized := func(last, instances int) string {
		return lines("module M", "  channel "+repeated(1023, "c#", ", "), "endmodule", "channel "+repeated(last, "d#", ", "), repeated(instances, "instance I# = M", "\n"))
	}
	if got := len(expand(t, source(t, sized(api.MaxNodes-1-1024*7-1, 6)))); got != api.MaxNodes {
		t.Errorf("%d nodes, want %d", got, api.MaxNodes)
	}
	wantErrorOf(t, source(t, sized(api.MaxNodes-1024*7-1, 6)), api.Pos{}, api.ErrFull)
	wantErrorOf(t, source(t, sized(1, 7)), api.Pos{}, api.ErrFull)
	wantErrorOf(t, source(t, sized(1, 1000)), api.Pos{}, api.ErrFull)
}

func TestExpandCountsTheParameters(t *testing.T) {
	// Each instance has 1 + 1 + 1 nodes of its parameter, and 3 of x.
	const nodes = 6
	src := func(instances, rest int) []api.Node {
		return source(t, lines("module M(p)", "  x = p", "endmodule", repeated(instances, "instance I# = M(1)", "\n"), "channel "+repeated(rest, "c#", ", ")))
	}
	const instances = 1360
	rest := api.MaxNodes - 1 - nodes*instances - 1
	if got := len(expand(t, src(instances, rest))); got != api.MaxNodes {
		t.Errorf("%d nodes, want %d", got, api.MaxNodes)
	}
	wantErrorOf(t, src(instances, rest+1), api.Pos{}, api.ErrFull)
}

func TestExpandOfTheLargestTrees(t *testing.T) {
	deep := func(depth int, name string) string { return strings.Repeat("#", api.MaxNest-depth) + name }
	wantProgram(t, lines("module M(p)", "  x = "+deep(5, "p"), "endmodule", "instance I = M("+deep(4, "b")+")"),
		lines("I'p = "+deep(4, "b"), "I'x = "+deep(5, "I'p")))
}
