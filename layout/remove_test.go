package layout_test

import (
	"slices"
	"testing"

	"cspcheck/api"
	"cspcheck/layout"
)

// blocks returns a list of inserted tokens: ( opens a block, ; separates, ) closes; every other byte is a name.
func blocks(s string) []api.Token {
	var l []api.Token
	for i := range len(s) {
		x := api.Token{Kind: api.TokenName, Str: s[i : i+1]}
		switch s[i] {
		case '(':
			x = api.Token{Kind: api.TokenOpen}
		case ';':
			x = api.Token{Kind: api.TokenSep}
		case ')':
			x = api.Token{Kind: api.TokenClose}
		}
		x.Pos = api.Pos{Line: 1, Col: i + 1}
		l = append(l, x)
	}
	return l
}

// P2.3

func TestRemoveLeavesTheOtherTokens(t *testing.T) {
	for src, want := range map[string]string{
		"":         "",
		"ab":       "ab",
		"(":        "",
		";":        "",
		")":        "",
		"(a;b)":    "ab",
		")a;;(b(c": "abc",
	} {
		if got := shape(layout.Remove(blocks(src))); got != shape(blocks(want)) {
			t.Errorf("Remove of %s = %s", src, got)
		}
	}
	if got := layout.Remove(nil); len(got) != 0 {
		t.Errorf("Remove(nil) = %v", got)
	}
}

func TestRemoveLooksAtKindsOnly(t *testing.T) {
	l := []api.Token{
		{}, {Kind: api.TokenOpen, Str: "a"}, {Kind: 8, Str: "b"}, {Kind: -1, Int: 7},
		{Kind: api.TokenSep, Int: 1}, {Kind: api.TokenName, Str: "let", Pos: api.Pos{Line: -1}},
		{Kind: api.TokenClose, Pos: api.Pos{Line: 3, Col: 4}}, {Kind: api.TokenSymbol, Str: ";"},
		{Kind: api.TokenInt, Int: -1}, {Kind: api.TokenKeyword, Str: "within"},
	}
	if got, want := layout.Remove(l), []api.Token{l[0], l[2], l[3], l[5], l[7], l[8], l[9]}; !slices.Equal(got, want) {
		t.Errorf("got %v, want %v", got, want)
	}
}

func TestRemoveLeavesItsArgument(t *testing.T) {
	for _, src := range []string{"(a;b)", "ab"} {
		l := blocks(src)
		for i, got := 0, layout.Remove(l); i < len(got); i++ {
			got[i] = api.Token{}
		}
		if !slices.Equal(l, blocks(src)) {
			t.Errorf("the argument %s became %v", src, l)
		}
	}
}

func TestBalancedMatchesBlocks(t *testing.T) {
	for _, s := range []string{"", "a", ";", "()", "(a;b)", "()()", "(())", "a(b(;)c(d))e;"} {
		if !layout.Balanced(blocks(s)) {
			t.Errorf("%q is not balanced", s)
		}
	}
	for _, s := range []string{"(", ")", ")(", "(()", "())", "())(", "(a;b", "a;b)", "()(", "())(()"} {
		if layout.Balanced(blocks(s)) {
			t.Errorf("%q is balanced", s)
		}
	}
}

func TestBalancedLooksAtKindsOnly(t *testing.T) {
	open := api.Token{Kind: api.TokenOpen, Str: "a", Int: 1}
	closing := api.Token{Kind: api.TokenClose, Str: "b", Pos: api.Pos{Line: -1}}
	parenthesis := api.Token{Kind: api.TokenSymbol, Str: "("}
	if !layout.Balanced([]api.Token{{}, open, parenthesis, {Kind: 8}, closing, {Kind: -1}}) {
		t.Error("a block with other fields is not balanced")
	}
	if layout.Balanced([]api.Token{open, {Kind: api.TokenSymbol, Str: ")"}}) {
		t.Error("a parenthesis closes a block")
	}
}

// Consequences

// everyList calls visit with the lists of at most size tokens, each of a text and at a place behind the token before it.
func everyList(size int, visit func([]api.Token)) {
	texts := []string{"let", "within", "exports", "module", "a"}
	var extend func(l []api.Token)
	extend = func(l []api.Token) {
		visit(l)
		if len(l) == size {
			return
		}
		last := api.Pos{}
		if len(l) > 0 {
			last = l[len(l)-1].Pos
		}
		next := last.Line + 1
		for _, p := range []api.Pos{{Line: last.Line, Col: last.Col + 1}, {Line: next, Col: 1}, {Line: next, Col: 2}, {Line: next, Col: 3}} {
			for _, s := range texts {
				x := keyword(s, p.Line, p.Col)
				if s == "a" {
					x.Kind = api.TokenName
				}
				extend(append(slices.Clone(l), x))
			}
		}
	}
	extend(nil)
}

func TestRemoveUndoesInsert(t *testing.T) {
	inserted := 0
	everyList(4, func(l []api.Token) {
		got, pos, e := layout.Insert(l)
		if e != api.OK {
			return
		}
		inserted++
		if back := layout.Remove(got); !slices.Equal(back, l) {
			t.Errorf("Remove(Insert(%s)) = %s", shape(l), shape(back))
		}
		if !layout.Balanced(got) || pos != (api.Pos{}) {
			t.Errorf("Insert(%s) = %s, %v", shape(l), shape(got), pos)
		}
	})
	if inserted < 1000 {
		t.Errorf("only %d lists are free of errors", inserted)
	}
}
