package scope_test

import (
	"slices"
	"testing"

	"cspcheck/api"
	"cspcheck/scope"
)

// wantFree checks the free symbols of the first node with an operator, as they are described. Different symbols in them have different names.
func wantFree(t *testing.T, src string, op int, want ...string) {
	t.Helper()
	p, s := resolve(t, source(t, src))
	i := slices.IndexFunc(p, func(n api.Node) bool { return n.Op == op })
	l := scope.Free(p, s, i)
	var got []string
	for k, x := range l {
		got = append(got, describe(s[x]))
		if k > 0 && l[k-1] >= x {
			t.Errorf("%q: free symbols %v are not ascending", src, l)
		}
	}
	if !slices.Equal(got, want) {
		t.Errorf("%q: the symbols %q are free in node %d, want %q", src, got, i, want)
	}
}

func TestFree(t *testing.T) {
	wantFree(t, "f(x, y) = \\ z @ (y, z, x, y)", api.OpLambda, "x var 0", "y var 0")
	wantFree(t, "f(x) = \\ x @ x", api.OpLambda)
	wantFree(t, "f(x) = (\\ x @ x, x)", api.OpTuple, "x var 0")
	wantFree(t, "f(x) = \\ y @ <x | x <- y, y <- x>", api.OpSeqComp, "y var 0")
	wantFree(t, "f(x) = x", api.OpProgram)
	wantFree(t, "f(x) = x", api.OpFun)
	wantFree(t, "f(x) = x", api.OpName)
}

func TestFreeLocals(t *testing.T) {
	src := lines("f(x) = let", "    g(1) = (h, y)", "    (h, y) = (g(x), 1)", "  within g(<h>)")
	wantFree(t, src, api.OpLet, "x var 0")
	wantFree(t, src, api.OpBlock, "x var 0")
	wantFree(t, src, api.OpTuple, "h local 0", "y local 0")
	wantFree(t, src, api.OpBind, "x var 0", "g local 1")
	wantFree(t, src, api.OpSeq, "h local 0")
}

func TestNoOthersAreFree(t *testing.T) {
	wantFree(t, "f = <a, b.1, g, x, T, N, union>\ng = 1\n(x, _) = 1\ndatatype T = a\nnametype N = T\nchannel b : N", api.OpSeq)
}

func TestFreeInClauses(t *testing.T) {
	p, s := resolve(t, source(t, lines("f(x) = let", "    g :: (Int) -> Int", "    g(1) = x", "    g(2) = g(1)", "    g(3) = 3", "  within g(4)")))
	var got []int
	for i, n := range p {
		if n.Str == "g" && n.Op != api.OpName {
			got = append(got, len(scope.Free(p, s, i)))
		}
	}
	if want := []int{0, 1, 1, 0}; !slices.Equal(got, want) {
		t.Errorf("numbers of free symbols of the Sig and the clauses of g: %v, want %v", got, want)
	}
}

func TestFreeOutOfRange(t *testing.T) {
	p, s := resolve(t, source(t, "f(x) = \\ y @ x"))
	for _, i := range []int{-1, len(p), len(p) + 1, -1 << 63, 1<<63 - 1} {
		if l := scope.Free(p, s, i); len(l) != 0 {
			t.Errorf("Free(%d) = %v", i, l)
		}
	}
	if l := scope.Free(nil, nil, 0); len(l) != 0 {
		t.Errorf("Free(nil) = %v", l)
	}
}
