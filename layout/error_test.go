package layout_test

import (
	"math"
	"strings"
	"testing"

	"cspcheck/api"
	"cspcheck/layout"
)

func at(line, col int) api.Token {
	return api.Token{Kind: api.TokenName, Str: "a", Pos: api.Pos{Line: line, Col: col}}
}

func keyword(s string, line, col int) api.Token {
	return api.Token{Kind: api.TokenKeyword, Str: s, Pos: api.Pos{Line: line, Col: col}}
}

// wantRefused checks that a list of tokens has the given error and no result.
func wantRefused(t *testing.T, l []api.Token, line, col int, want api.Errno) {
	t.Helper()
	got, pos, e := layout.Insert(l)
	if e != want || pos != (api.Pos{Line: line, Col: col}) || len(got) != 0 {
		t.Errorf("Insert(%.200s) = %d tokens, %v, error %d, want error %d at %d:%d", shape(l), len(got), pos, e, want, line, col)
	}
}

func wantError(t *testing.T, src string, line, col int, want api.Errno) {
	t.Helper()
	wantRefused(t, scan(t, src), line, col, want)
}

// P2.2

func TestInsertRefusesInvalidTokens(t *testing.T) {
	for _, x := range []api.Token{
		{}, {Str: "a"}, {Kind: 8, Str: "a"}, {Kind: -1},
		{Kind: api.TokenOpen}, {Kind: api.TokenSep}, {Kind: api.TokenClose},
		{Kind: api.TokenName}, {Kind: api.TokenName, Str: "let"}, {Kind: api.TokenName, Str: "a", Int: 1},
		{Kind: api.TokenInt, Int: -1}, {Kind: api.TokenInt, Str: "1"},
		{Kind: api.TokenKeyword, Str: "a"}, {Kind: api.TokenSymbol, Str: "~"}, {Kind: api.TokenSymbol, Str: "(|~|"},
	} {
		x.Pos = api.Pos{Line: 1, Col: 1}
		wantRefused(t, []api.Token{x}, 1, 1, api.ErrInvalid)
		wantRefused(t, []api.Token{x, at(1, 1)}, 1, 1, api.ErrInvalid)
		x.Pos = api.Pos{Line: 2, Col: 3}
		wantRefused(t, []api.Token{x}, 2, 3, api.ErrInvalid)
		wantRefused(t, []api.Token{at(1, 1), x, at(3, 1)}, 2, 3, api.ErrInvalid)
	}
}

func TestInsertRefusesPositionsOutOfOrder(t *testing.T) {
	for _, p := range []api.Pos{{Line: 4, Col: 5}, {Line: 4, Col: 4}, {Line: 4, Col: 1}, {Line: 3, Col: 5}, {Line: 3, Col: 9}, {Line: 1, Col: 1}} {
		wantRefused(t, []api.Token{at(1, 1), at(4, 5), at(p.Line, p.Col)}, p.Line, p.Col, api.ErrInvalid)
	}
	for _, p := range []api.Pos{{Line: 4, Col: 6}, {Line: 5, Col: 1}, {Line: 5, Col: 5}, {Line: math.MaxInt, Col: math.MaxInt}} {
		if _, _, e := layout.Insert([]api.Token{at(1, 1), at(4, 5), at(p.Line, p.Col)}); e != api.OK {
			t.Errorf("a token at %v behind one at 4:5: error %d", p, e)
		}
	}
}

func TestInsertRefusesPositionsBelowOne(t *testing.T) {
	for _, n := range []int{0, -1, math.MinInt} {
		for _, p := range []api.Pos{{Line: 1, Col: n}, {Line: n, Col: 1}, {Line: n, Col: n}, {Line: n, Col: 7}, {Line: 7, Col: n}} {
			wantRefused(t, []api.Token{at(p.Line, p.Col)}, p.Line, p.Col, api.ErrInvalid)
			wantRefused(t, []api.Token{at(1, 1), at(p.Line, p.Col)}, p.Line, p.Col, api.ErrInvalid)
		}
	}
}

func TestInsertRefusesAFirstTokenBehindColumnOne(t *testing.T) {
	wantError(t, " f = 1", 1, 2, api.ErrLayout)
	wantError(t, "\n\n  f = 1\ng", 3, 3, api.ErrLayout)
	wantError(t, " within", 1, 2, api.ErrLayout)
	wantError(t, " let", 1, 2, api.ErrLayout)
}

func TestInsertRefusesBlocksThatAreNotIndented(t *testing.T) {
	wantError(t, "f = let x = let\n    y = 1", 2, 5, api.ErrLayout)
	wantError(t, "f = let x = let\n        y = 1", 2, 9, api.ErrLayout)
	wantShape(t, "f = let x = let\n         y = 1", "<< f = let << x = let << y = 1 >> >> >>")
	wantError(t, "f = let\nx", 2, 1, api.ErrLayout)
	wantError(t, "module M\nx", 2, 1, api.ErrLayout)
	wantError(t, "Timed (f)\nx", 2, 1, api.ErrLayout)
	wantError(t, "module M\n  x\n  module N\n  y", 4, 3, api.ErrLayout)
	wantError(t, "module M\n  x\nexports\ny", 4, 1, api.ErrLayout)
	wantShape(t, "f = let\n  x exports\n y", "<< f = let << x >> exports << y >> >>")
}

func TestInsertRefusesAModuleBlockLeftOfAnotherBlock(t *testing.T) {
	wantError(t, "module M let x\n  y", 2, 3, api.ErrLayout)
	wantError(t, "module M let\n x\n y", 3, 2, api.ErrLayout)
	wantError(t, "f = let module M\n  x", 2, 3, api.ErrLayout)
}

// nest returns a source of one line with the given number of blocks, that of the program among them.
func nest(blocks int) string {
	return "f" + strings.Repeat(" let x", blocks-1)
}

func TestInsertLimitsNesting(t *testing.T) {
	full := nest(api.MaxNest)
	wantShape(t, full, "<< f"+strings.Repeat(" let << x", api.MaxNest-1)+strings.Repeat(" >>", api.MaxNest))
	wantError(t, full+" let x", 1, len(full)+6, api.ErrFull)
	wantError(t, full+" let let", 1, len(full)+6, api.ErrFull)
	wantError(t, full+" module M\n"+strings.Repeat(" ", len(full))+"y", 2, len(full)+1, api.ErrFull)
	wantError(t, full+" exports x exports x let x", 1, len(full)+26, api.ErrFull)
}

func TestInsertCountsOnlyOpenBlocks(t *testing.T) {
	full := nest(api.MaxNest)
	for _, src := range []string{full + " let within y", full + " within let y", full + "\nlet y", full + " exports y"} {
		if _, pos, e := layout.Insert(scan(t, src)); e != api.OK {
			t.Errorf("Insert of %.400q: error %d at %v", src, e, pos)
		}
	}
}

func TestInsertRefusesKeywordsWithoutABlock(t *testing.T) {
	wantError(t, "f = let", 1, 5, api.ErrLayout)
	wantError(t, "let", 1, 1, api.ErrLayout)
	wantError(t, "module M", 1, 1, api.ErrLayout)
	wantError(t, "x = 1\nmodule", 2, 1, api.ErrLayout)
	wantError(t, "x = 1\nTimed (f)", 2, 1, api.ErrLayout)
	wantError(t, "module M\n  x\nexports", 3, 1, api.ErrLayout)
	wantError(t, "f = let let", 1, 9, api.ErrLayout)
	wantError(t, "f = let exports", 1, 9, api.ErrLayout)
}

func TestInsertReturnsTheFirstKeywordWithoutABlock(t *testing.T) {
	wantError(t, "x = 1\nmodule M exports", 2, 1, api.ErrLayout)
	wantError(t, "x\nmodule M let", 2, 1, api.ErrLayout)
	wantError(t, "x\nTimed (f) let\n y", 2, 1, api.ErrLayout)
	wantError(t, "let module M", 1, 5, api.ErrLayout)
	wantError(t, "module M module N", 1, 10, api.ErrLayout)
	wantError(t, "module M\n x Timed (f) module N let", 2, 14, api.ErrLayout)
}

func TestInsertReturnsTheFirstError(t *testing.T) {
	wantRefused(t, []api.Token{at(1, 1), keyword("let", 1, 3), at(2, 1), at(2, 1)}, 2, 1, api.ErrLayout)
	wantRefused(t, []api.Token{at(1, 1), at(1, 1), keyword("let", 1, 3), at(2, 1)}, 1, 1, api.ErrInvalid)
	wantRefused(t, []api.Token{at(1, 2), at(1, 2)}, 1, 2, api.ErrLayout)
	wantRefused(t, []api.Token{keyword("module", 1, 1), at(1, 1)}, 1, 1, api.ErrInvalid)
	wantRefused(t, []api.Token{keyword("module", 1, 1), keyword("let", 1, 8), at(2, 1), keyword("let", 3, 1)}, 2, 1, api.ErrLayout)
}

func TestInsertReturnsTheErrorOfATokenThatIsNamedFirst(t *testing.T) {
	wantRefused(t, []api.Token{{Kind: api.TokenOpen, Pos: api.Pos{Line: 1, Col: 2}}}, 1, 2, api.ErrInvalid)
	wantRefused(t, []api.Token{keyword("let", 1, 1), {Kind: api.TokenSymbol, Str: "~", Pos: api.Pos{Line: 2, Col: 1}}}, 2, 1, api.ErrInvalid)
	full := nest(api.MaxNest)
	wantError(t, full+" let\n  y", 2, 3, api.ErrLayout)
	l := scan(t, full+" let x")
	l[len(l)-1].Str = ""
	wantRefused(t, l, 1, len(full)+6, api.ErrInvalid)
}
