package modules_test

import (
	"slices"
	"strings"
	"testing"

	"cspcheck/api"
	"cspcheck/modules"
)

// P4.3

func wantFlat(t *testing.T, p []api.Node, want bool) {
	t.Helper()
	before := slices.Clone(p)
	if got := modules.Flat(p); got != want {
		t.Errorf("Flat(%+v) = %t", p, got)
	}
	if !slices.Equal(p, before) {
		t.Errorf("Flat changed %+v", before)
	}
}

func TestFlatPermitsJoinedNames(t *testing.T) {
	one := node(api.OpInt, "")
	for _, name := range []string{"A::b", "a::B", "a::b::c", "Timed::x", "x::Timed", "Timed::Timed", "0::1", "Timed::00", "Timed::18446744073709551616", "a_'1::b", strings.Repeat("n", api.MaxName) + "::" + strings.Repeat("n", api.MaxName)} {
		typeName := node(api.OpTypeName, name)
		plain := node(api.OpName, name)
		wantFlat(t, program(fun(name, one)), true)
		wantFlat(t, program(fun("x", plain)), true)
		wantFlat(t, program(node(api.OpSig, name, typeName)), true)
		wantFlat(t, program(node(api.OpData, name, node(api.OpCon, name))), true)
		wantFlat(t, program(node(api.OpNametype, name, one)), true)
		wantFlat(t, program(node(api.OpChannel, "", plain, plain)), true)
		wantFlat(t, program(node(api.OpTimed, "", plain, node(api.OpBlock, "", fun(name, one)))), true)
		wantFlat(t, program(node(api.OpFun, name, node(api.OpParams, "", plain, node(api.OpCat, "", plain, node(api.OpSeq, "", plain))), one)), true)
		wantFlat(t, program(node(api.OpBind, "", node(api.OpTuple, "", plain, plain), one)), true)
		wantFlat(t, program(node(api.OpSig, "x", node(api.OpTypeVar, name))), false)
		wantFlat(t, program(node(api.OpSig, "x", node(api.OpClass, name, node(api.OpTypeVar, "a")), node(api.OpTypeVar, "a"))), false)
		wantFlat(t, program(fun("x", node(api.OpStop, name))), false)
		// A name is no pattern of a Bind, joined or not, and two of them do not fit into one Cat.
		wantFlat(t, program(node(api.OpBind, "", plain, one)), false)
		wantFlat(t, program(node(api.OpBind, "", node(api.OpCat, "", plain, plain), one)), false)
	}
}

func TestFlatRefusesOtherNames(t *testing.T) {
	for _, name := range []string{"", "::", "A::", "::A", "A::::b", "A:b", "A:::b", "let", "A::let", "A::endtimed", "Timed", "0", "A::-1", "A::_", "A::'", "A:: b", " A::b", "A::1a", "A::b.c", "A::\xff", strings.Repeat("n", api.MaxName+1) + "::a"} {
		wantFlat(t, program(fun(name, node(api.OpInt, ""))), false)
		wantFlat(t, program(fun("x", node(api.OpName, name))), false)
		wantFlat(t, program(node(api.OpSig, "x", node(api.OpTypeName, name))), false)
	}
	wantFlat(t, program(node(api.OpSig, "x", node(api.OpTypeName, "a"))), false)
	wantFlat(t, program(node(api.OpSig, "x", node(api.OpTypeName, "A"))), true)
}

func TestFlatRefusesModules(t *testing.T) {
	for src, want := range map[string]bool{
		"x = 1":                                                   true,
		"module M\n  x = 1\nendmodule":                            false,
		"module M(p)\n  x = 1\nendmodule\nx = 1":                  false,
		"x = 1\ninstance I = M":                                   false,
		"x = let y = 1 within y":                                  true,
		"x = let channel c within 1":                              false,
		"x = let\n  Timed (f)\n    a = 1\n  endtimed\n within 1":  false,
		"x = let assert P [T= P within 1":                         false,
		"Timed (f)\n  x = 1\n  x :: Int\n  (u, v) = x\nendtimed":  true,
		"Timed (f)\n  nametype x = 1\nendtimed":                   false,
		"Timed (f)\n  Timed (f)\n    x = 1\n  endtimed\nendtimed": false,
		"Timed (f)\n  x = let datatype T = A within 1\nendtimed":  false,
		"channel c\ndatatype T = A\nnametype N = T\nassert P :[deterministic]\nassert P :[has trace]: <>": true,
	} {
		wantFlat(t, source(t, src), want)
	}
	wantFlat(t, program(node(api.OpModule, "M::N", node(api.OpParams, ""), node(api.OpBlock, "", fun("x", node(api.OpStop, ""))))), false)
}

func TestFlatRefusesOtherTrees(t *testing.T) {
	one := node(api.OpInt, "")
	wantFlat(t, nil, false)
	wantFlat(t, []api.Node{{}}, false)
	wantFlat(t, []api.Node{{Op: api.OpProgram}}, false)
	wantFlat(t, []api.Node{{Op: api.OpProgram, Kids: -1}}, false)
	wantFlat(t, []api.Node{{Op: api.OpProgram, Kids: 1 << 62}}, false)
	wantFlat(t, fun("x", one), false)
	wantFlat(t, program(fun("x", one))[:3], false)
	wantFlat(t, append(program(fun("x", one)), one...), false)
	wantFlat(t, program(slices.Repeat([][]api.Node{fun("x", one)}, api.MaxNodes)...), false)
}
