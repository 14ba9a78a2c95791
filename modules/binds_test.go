package modules_test

import (
	"slices"
	"strings"
	"testing"

	"cspcheck/api"
	"cspcheck/modules"
)

// wantBinds checks the names that the only node with an operator in a source binds.
func wantBinds(t *testing.T, src string, op int, want string) {
	t.Helper()
	p := source(t, src)
	i := slices.IndexFunc(p, func(n api.Node) bool { return n.Op == op })
	if got := strings.Join(modules.Binds(p, i), " "); i < 0 || got != want {
		t.Errorf("Binds(%q, %d) = %s, want %s", src, i, got, want)
	}
}

func TestBindsOfEachForm(t *testing.T) {
	wantBinds(t, "f(x, y, x) = z", api.OpFun, "x y")
	wantBinds(t, "f = z", api.OpFun, "")
	wantBinds(t, "f = \\ x, (y, z) @ u", api.OpLambda, "x y z")
	wantBinds(t, "f = let\n  g(x) = y\n  (u, g, v) = h\n  g(z) = y\n  k :: Int\n within w", api.OpLet, "g u v")
	wantBinds(t, "f = < x | y <- z, u, (v, y) <- w >", api.OpSeqComp, "y v")
	wantBinds(t, "f = { x | y <- z, u, (v, y) <- w }", api.OpSetComp, "y v")
	wantBinds(t, "f = {| x | y <- z, u, (v, y) <- w |}", api.OpEvComp, "y v")
	wantBinds(t, "f = {| x, y |}", api.OpEvents, "")
	wantBinds(t, "f = [] x : y, z, u <- v @ w", api.OpRepeat, "x u")
	wantBinds(t, "f = [| y |] x : y, z, u <- v @ w", api.OpRepeat, "x u")
	wantBinds(t, "f = [+ y +] x : y @ w", api.OpRepeat, "x")
	wantBinds(t, "f = || x : y @ [z] w", api.OpRepeat, "x")
	wantBinds(t, "f = P [[ a <- b | x <- y, z, u : v ]]", api.OpRename, "x u")
	wantBinds(t, "f = P [[ a <- b ]]", api.OpRename, "")
	wantBinds(t, "f = c?x:{y}!z$u:v?(x.w) -> q", api.OpPrefix, "x u w")
	wantBinds(t, "f = c -> d?x -> e", api.OpPrefix, "")
}

func TestBindsOfOtherNodes(t *testing.T) {
	p := source(t, "channel c\ndatatype T = A\n(u, v) = let g(x) = 1 within c?y -> \\ z @ <i | i <- j>\nTimed (f)\n  P = a\nendtimed")
	for i, n := range p {
		switch n.Op {
		case api.OpLet, api.OpPrefix, api.OpLambda, api.OpSeqComp, api.OpFun:
		default:
			if got := modules.Binds(p, i); len(got) != 0 {
				t.Errorf("node %d (operator %d) binds %v", i, n.Op, got)
			}
		}
	}
}

func TestBindsOfEachPattern(t *testing.T) {
	wantBinds(t, "f(<x>^y^<z>, {u}, v@@w, (_, 1), -2, true, s.r.q, <>) = 1", api.OpFun, "x y z u v w s r q")
	wantBinds(t, "f({}, false, <{(x, <y>)}, (z)>) = 1", api.OpFun, "x y z")
}

func TestBindsOfConstructorsAndChannels(t *testing.T) {
	outside := "\ndatatype T = A | B.{0}\nchannel c, d\nnametype N = T\ng = 1"
	wantBinds(t, "f(A, B.x, c, d, T, N, g) = A"+outside, api.OpFun, "x T N g")
	wantBinds(t, "f = c?A?x?d -> A"+outside, api.OpPrefix, "x")
	wantBinds(t, "f = let\n  A = c\n  (c, x) = 1\n within A"+outside, api.OpLet, "A x")
	wantBinds(t, "f = <x | (A, x) <- c>"+outside, api.OpSeqComp, "x")
}

func TestBindsOfJoinedNames(t *testing.T) {
	pattern := node(api.OpTuple, "", node(api.OpName, "M::A"), node(api.OpName, "A"), node(api.OpName, "Timed::0"), node(api.OpName, "M::c"))
	f := node(api.OpFun, "f", node(api.OpParams, "", pattern), node(api.OpStop, ""))
	p := program(f, node(api.OpData, "M::T", node(api.OpCon, "M::A")), node(api.OpChannel, "", node(api.OpName, "M::c")))
	if got := modules.Binds(p, 1); !slices.Equal(got, []string{"A", "Timed::0"}) {
		t.Errorf("got %v", got)
	}
}

func TestBindsRefusesOtherArguments(t *testing.T) {
	p := source(t, "f(x) = y")
	for _, i := range []int{-1 << 63, -1, len(p), 1<<63 - 1} {
		if got := modules.Binds(p, i); len(got) != 0 {
			t.Errorf("Binds(p, %d) = %v", i, got)
		}
	}
	for _, src := range []string{"f(x) = y\nmodule M\n  z = 1\nendmodule", "f(x) = let channel c within 1", "f(x) = y\ninstance I = M"} {
		wantBinds(t, src, api.OpFun, "")
	}
	for _, q := range [][]api.Node{nil, p[1:], p[:2], {{Op: api.OpFun, Kids: -1}}, {{Op: api.OpFun, Kids: 9}}} {
		for i := range 2 {
			if got := modules.Binds(q, i); len(got) != 0 {
				t.Errorf("Binds(%v, %d) = %v", q, i, got)
			}
		}
	}
}

func TestResultsOfBindsAreNew(t *testing.T) {
	p := source(t, "f(x, y) = 1")
	modules.Binds(p, 1)[0] = "changed"
	if got := modules.Binds(p, 1); !slices.Equal(got, []string{"x", "y"}) {
		t.Errorf("got %v", got)
	}
}
