package timed_test

import (
	"slices"
	"testing"

	"cspcheck/api"
	"cspcheck/preorder"
)

// P5.1: positions

// columns returns the columns of the nodes of a declaration, which must be in one line; 0 stands for the zero position.
func columns(t *testing.T, declaration []api.Node, line int) []int {
	t.Helper()
	var l []int
	for _, n := range declaration {
		if n.Pos != (api.Pos{}) && n.Pos.Line != line {
			t.Errorf("%+v is not in line %d", n, line)
		}
		l = append(l, n.Pos.Col)
	}
	return l
}

// wantColumns checks the columns of the nodes of the translation of a process, where the first column of the process is column 1.
func wantColumns(t *testing.T, process string, want ...int) {
	t.Helper()
	const before = 4 // columns of the indentation and the name
	q := translate(t, source(t, "channel tock\nTimed (f)\n  P\n   ="+process+"\nendtimed"))
	tree := preorder.New(q)
	declarations := tree.Kids(0)
	body := tree.Kids(declarations[len(declarations)-1])[1]
	got := columns(t, tree.Subtree(body), 4)
	for i := range want {
		if want[i] != 0 {
			want[i] += before
		}
	}
	if !slices.Equal(got, want) {
		t.Errorf("%s: columns %v, want %v (from %d on)", process, got, want, before)
	}
}

func TestTranslatePositions(t *testing.T) {
	wantColumns(t, "STOP", 1)
	wantColumns(t, "SKIP;DIV", 5, 1, 6)
	wantColumns(t, "b&Q", 2, 1, 3, 2)
	wantColumns(t, "Q[]R", 2, 1, 2, 2, 4)
	wantColumns(t, "Q|||R", 2, 1, 2, 2, 5)
	wantColumns(t, "Q[+A+]R", 2, 1, 2, 2, 4, 2, 2, 7)
	wantColumns(t, "Q[|A|]R", 2, 1, 2, 2, 4, 2, 2, 7)
	wantColumns(t, "Q[A||B]R", 2, 1, 2, 2, 3, 2, 2, 2, 2, 6, 2, 2, 8)
	wantColumns(t, "Q[|A|>R", 2, 1, 4, 7)
	wantColumns(t, "Q\\A", 2, 1, 2, 2, 3, 2, 2)
	wantColumns(t, "[]x:s@Q", 1, 1, 1, 0, 4, 3, 5, 7)
	wantColumns(t, "|||x:s@Q", 1, 1, 1, 0, 5, 4, 6, 8)
	wantColumns(t, "[|A|]x:s@Q", 1, 1, 1, 3, 1, 1, 0, 7, 6, 8, 10)
	wantColumns(t, "[+A+]x:s@Q", 1, 1, 1, 3, 1, 1, 0, 7, 6, 8, 10)
	wantColumns(t, "||x:s@[A]Q", 1, 0, 4, 3, 5, 1, 1, 8, 1, 1, 10)
	wantColumns(t, "|~|x:s@Q", 1, 0, 5, 4, 6, 8)
	wantColumns(t, "Q[[a<-b]]", 2, 1, 0, 5, 4, 7)
	wantColumns(t, "chase(STOP)", 1, 7)
	wantColumns(t, "f(x,STOP)", 2, 1, 3, 5)
}

func TestTranslatePositionsOfPrefix(t *testing.T) {
	wantColumns(t, "a->STOP",
		2, 2, 2, 0, 2, // Let, Block, Fun, Params, Extern
		2, 1, 2, 2, 2, 2, 1, 4, // Prefix, a, Apply, wait, Apply, delay, a, stop
		2, 2, 2, // Prefix, tock, here
		2) // here
	wantColumns(t, "a?_!x?(y@@_):s->Q",
		15, 15, 15, 0, 15,
		15, 1, 2, 3, 4, 5, 6, 9, 8, 11, 14, // Prefix, a, Input, 0, Output, x, Input, Both, y, 1, s
		15, 15, 15, 15, // Apply, wait, Apply, delay
		15, 15, 15, 1, 3, 5, 8, // Dot, Dot, Dot, a, 0, x, y
		17, 15, 15, 15, 15)
}

func TestTranslatePositionsOfDeclarations(t *testing.T) {
	p := source(t, lines("channel tock", "Q = R", "Timed (f)", "  P = STOP", "endtimed", "Timed (g)", "  S(_) = Q", "endtimed"))
	q := translate(t, p)
	tree := preorder.New(q)
	for i, d := range tree.Kids(0) {
		line := []int{3, 3, 3, 3, 3, 3, 3, 6, 1, 2, 4, 7}[i]
		for _, n := range tree.Subtree(d) {
			isNew := i < 8
			isEmpty := n.Op == api.OpParams
			if n.Pos.Line != line && !isEmpty || isNew && n.Pos.Col != 1 && !isEmpty || isEmpty && n.Pos != (api.Pos{}) {
				t.Errorf("declaration %d: %+v, want line %d", i, n, line)
			}
		}
	}
	if q[0].Pos != p[0].Pos {
		t.Errorf("the program has position %v, want %v", q[0].Pos, p[0].Pos)
	}
}

// What is translated by its parts keeps its positions, even those that no source has.
func TestTranslateKeepsPositions(t *testing.T) {
	p := source(t, section("P(x) = let", "    f(y) = \\z @ <x | x <- y>", "    (a, _) = c[[b <- a | a <- e]]", "  within if x then y else z"))
	for i := range p {
		p[i].Pos = api.Pos{Line: i + 1, Col: -i}
	}
	first := slices.IndexFunc(p, func(n api.Node) bool { return n.Op == api.OpTimed })
	q := translate(t, p)
	kept := p[first+3:]
	if got := q[len(q)-len(kept):]; !slices.Equal(got, kept) {
		t.Errorf("got %v, want %v", got, kept)
	}
}
