package lexer_test

import (
	"math"
	"slices"
	"strings"
	"testing"

	"cspcheck/api"
	"cspcheck/lexer"
)

const listed = `[FD= |~| ||| <-> [T= [F= || |] |> |} |) [| [] [> [+ [[ ]] +] {| (| <- <= >= -> /\ => == != :: .. @@ | [ ] { } ( ) < > + - * / % \ = ! : ; , . ? $ @ & ^ # _`

// P1.3

func TestSymbolsAreThoseOfTheChapter(t *testing.T) {
	want := strings.Fields(listed)
	if got := lexer.Symbols(); !slices.Equal(got, want) {
		t.Errorf("got %q, want %q", got, want)
	}
	for _, s := range want {
		wantTokens(t, s, symbol(s))
	}
}

func TestSymbolsReturnsNewMemory(t *testing.T) {
	lexer.Symbols()[0] = "x"
	if got := lexer.Symbols()[0]; got != "[FD=" {
		t.Errorf("a change of the result changed the next one: %q", got)
	}
}

func validTokens() []api.Token {
	return append(symbols(listed),
		name("a"), name("Z9_'"), name("lets"), name("timed"), name(strings.Repeat("n", api.MaxName)),
		integer(0), integer(7), integer(math.MaxInt64),
		keyword("and"), keyword("Timed"), keyword("STOP"), keyword("prioritise"))
}

func TestValidAcceptsResultsOfScan(t *testing.T) {
	for _, x := range validTokens() {
		for _, pos := range []api.Pos{{}, {Line: 1, Col: 1}, {Line: -1, Col: math.MinInt}} {
			x.Pos = pos
			if !lexer.Valid(x) {
				t.Errorf("%v is refused", x)
			}
		}
	}
}

func invalidTokens() []api.Token {
	l := []api.Token{
		{}, {Str: "a"}, {Int: 1}, {Kind: -1, Str: "a"}, {Kind: 8}, {Kind: math.MaxInt, Str: "a"},
		{Kind: api.TokenOpen}, {Kind: api.TokenSep}, {Kind: api.TokenClose}, {Kind: api.TokenOpen, Str: "a"},
		{Kind: api.TokenName, Str: "a", Int: 1}, {Kind: api.TokenKeyword, Str: "let", Int: 1}, {Kind: api.TokenSymbol, Str: "=", Int: -1},
		{Kind: api.TokenInt, Int: 1, Str: "1"}, {Kind: api.TokenInt, Str: "1"}, {Kind: api.TokenInt, Str: "0"}, {Kind: api.TokenInt, Str: "a"},
		integer(-1), integer(math.MinInt64),
	}
	for _, s := range []string{"", " ", "let", "1", "1a", "_", "_a", "'a", "a b", " a", "a ", "a-", "a--", "\xc3\xa9", "a\xc3\xa9", "=", strings.Repeat("n", api.MaxName+1)} {
		l = append(l, name(s))
	}
	for _, s := range []string{"", "a", "Let", "let ", " let", "let'", "STOP SKIP", "0", "=", "timed"} {
		l = append(l, keyword(s))
	}
	for _, s := range []string{"", " ", "~", "--", "{-", "-}", "{--}", "(|~", "(||", "(|~|", "(|||", "= ", " =", "= =", "===", "a", "let", "1", "[FD", "[F", "|~", "\n", "\x00"} {
		l = append(l, symbol(s))
	}
	return l
}

func TestValidRefusesOtherTokens(t *testing.T) {
	for _, x := range invalidTokens() {
		if lexer.Valid(x) {
			t.Errorf("%v is accepted", x)
		}
	}
}

func TestFormatSeparatesTexts(t *testing.T) {
	for want, l := range map[string][]api.Token{
		"":                    nil,
		"a":                   {name("a")},
		"0":                   {integer(0)},
		"9223372036854775807": {integer(math.MaxInt64)},
		"P = a -> STOP":       {name("P"), symbol("="), name("a"), symbol("->"), keyword("STOP")},
		"{ - 1 }":             {symbol("{"), symbol("-"), integer(1), symbol("}")},
		"- - ( |":             {symbol("-"), symbol("-"), symbol("("), symbol("|")},
		"( |~| 12 (| |)":      {{Kind: api.TokenSymbol, Str: "(", Pos: api.Pos{Line: 3, Col: 4}}, symbol("|~|"), integer(12), symbol("(|"), symbol("|)")},
	} {
		if got := lexer.Format(l); got != want {
			t.Errorf("Format(%v) = %q, want %q", l, got, want)
		}
	}
	if got := lexer.Format([]api.Token{}); got != "" {
		t.Errorf("Format of an empty list is %q", got)
	}
}

func TestFormatRefusesInvalidTokens(t *testing.T) {
	for _, x := range invalidTokens() {
		for _, l := range [][]api.Token{{x}, {name("a"), x}, {x, name("a")}, {name("a"), x, integer(1)}} {
			if got := lexer.Format(l); got != "" {
				t.Errorf("Format(%v) = %q", l, got)
			}
		}
	}
}

func TestFormatLeavesItsArgument(t *testing.T) {
	l := []api.Token{{Kind: api.TokenName, Str: "a", Pos: api.Pos{Line: 2, Col: 3}}, integer(4)}
	before := slices.Clone(l)
	lexer.Format(l)
	if !slices.Equal(l, before) {
		t.Errorf("the argument became %v", l)
	}
}

// Consequences

func TestScanOfFormatReturnsTheTokens(t *testing.T) {
	all := validTokens()
	wantTokens(t, lexer.Format(all), all...)
	for _, x := range all {
		for _, y := range all {
			wantTokens(t, lexer.Format([]api.Token{x, y}), x, y)
		}
	}
	many := slices.Repeat([]api.Token{symbol("("), symbol("|~|"), name("ab"), integer(10)}, api.MaxTokens/4)
	wantTokens(t, lexer.Format(many), many...)
}
