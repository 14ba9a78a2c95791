package lexer_test

import (
	"slices"
	"strings"
	"testing"

	"cspcheck/api"
	"cspcheck/lexer"
)

func name(s string) api.Token    { return api.Token{Kind: api.TokenName, Str: s} }
func integer(n int64) api.Token  { return api.Token{Kind: api.TokenInt, Int: n} }
func keyword(s string) api.Token { return api.Token{Kind: api.TokenKeyword, Str: s} }
func symbol(s string) api.Token  { return api.Token{Kind: api.TokenSymbol, Str: s} }

// symbols returns the tokens of the symbols in s, which are separated by spaces.
func symbols(s string) []api.Token {
	var l []api.Token
	for _, f := range strings.Fields(s) {
		l = append(l, symbol(f))
	}
	return l
}

func withoutPositions(l []api.Token) []api.Token {
	out := slices.Clone(l)
	for i := range out {
		out[i].Pos = api.Pos{}
	}
	return out
}

// wantTokens checks that a source has the given tokens, apart from their positions.
func wantTokens(t *testing.T, src string, want ...api.Token) {
	t.Helper()
	got, pos, e := lexer.Scan(src)
	if e != api.OK || pos != (api.Pos{}) {
		t.Errorf("Scan(%.80q): error %d at %v", src, e, pos)
		return
	}
	if !slices.Equal(withoutPositions(got), want) {
		t.Errorf("Scan(%.80q) = %v, want %v", src, got, want)
	}
}

// wantError checks that a source has the given error and no tokens.
func wantError(t *testing.T, src string, line, col int, want api.Errno) {
	t.Helper()
	got, pos, e := lexer.Scan(src)
	if e != want || pos != (api.Pos{Line: line, Col: col}) || len(got) != 0 {
		t.Errorf("Scan(%.80q) = %d tokens, %v, error %d, want error %d at %d:%d", src, len(got), pos, e, want, line, col)
	}
}

// P1.1

func TestScanReadsTheExamplesOfTheChapter(t *testing.T) {
	wantTokens(t, "P = a->STOP -- x", name("P"), symbol("="), name("a"), symbol("->"), keyword("STOP"))
	wantTokens(t, "(|~| x:S @ P)", symbol("("), symbol("|~|"), name("x"), symbol(":"), name("S"), symbol("@"), name("P"), symbol(")"))
	wantError(t, "007", 1, 1, api.ErrSyntax)
	wantError(t, "{-1}", 1, 1, api.ErrSyntax)
	wantTokens(t, "{ -1}", symbol("{"), symbol("-"), integer(1), symbol("}"))
}

func TestScanOfSourcesWithoutItems(t *testing.T) {
	for _, src := range []string{"", " ", " \t\r\n", "--", "-- a", "--\n", "{--}", "{- a -}", "{--}--{-"} {
		wantTokens(t, src)
	}
}

func TestScanSkipsLineComments(t *testing.T) {
	wantTokens(t, "a--b\nc", name("a"), name("c"))
	wantTokens(t, "a -- {- b\nc", name("a"), name("c"))
	wantTokens(t, "a -- -} b\r\nc", name("a"), name("c"))
	wantTokens(t, "a --> b\nc", name("a"), name("c"))
	wantTokens(t, "a -- \xff\x00~", name("a"))
	wantTokens(t, "a - - b", name("a"), symbol("-"), symbol("-"), name("b"))
	wantTokens(t, "a<--b", name("a"), symbol("<-"), symbol("-"), name("b"))
	wantTokens(t, "a<---b", name("a"), symbol("<-"))
}

func TestScanSkipsNestedComments(t *testing.T) {
	wantTokens(t, "a{- b -}c", name("a"), name("c"))
	wantTokens(t, "a {- b {- c -} d -} e", name("a"), name("e"))
	wantTokens(t, "{-{-{-a-}-}-}b", name("b"))
	wantTokens(t, "{- -- -} a", name("a"))
	wantTokens(t, "{- --} a", name("a"))
	wantTokens(t, "{- \n ~ \xff -} a", name("a"))
	wantTokens(t, "{- -}-}", symbol("-"), symbol("}"))
	wantTokens(t, "{-{--}-} a", name("a"))
	wantTokens(t, "a|{-b-}|c", name("a"), symbol("|"), symbol("|"), name("c"))
}

func TestScanReadsWords(t *testing.T) {
	for _, s := range []string{"a", "Z", "x1", "x_", "x'", "a_1'Z", "a''", "letter", "Let", "let1", "let_", "let'", "timed", "stop", "STOPS", "has", "free"} {
		wantTokens(t, s, name(s))
	}
	wantTokens(t, strings.Repeat("n", api.MaxName), name(strings.Repeat("n", api.MaxName)))
	wantTokens(t, "_x", symbol("_"), name("x"))
	wantTokens(t, "__1", symbol("_"), symbol("_"), integer(1))
	wantTokens(t, "a.1", name("a"), symbol("."), integer(1))
}

func TestScanReadsKeywords(t *testing.T) {
	list := strings.Fields("and or not if then else let within true false datatype nametype channel module exports endmodule instance Timed endtimed assert STOP SKIP DIV chase prioritise")
	if len(list) != 25 {
		t.Fatal("the list of keywords is incomplete")
	}
	for _, s := range list {
		wantTokens(t, s, keyword(s))
	}
}

func TestScanReadsIntegers(t *testing.T) {
	wantTokens(t, "0", integer(0))
	wantTokens(t, "10", integer(10))
	wantTokens(t, "9223372036854775807", integer(9223372036854775807))
	wantTokens(t, "1..2", integer(1), symbol(".."), integer(2))
	wantTokens(t, "0 0", integer(0), integer(0))
}

func TestScanReadsTheLongestSymbol(t *testing.T) {
	for src, want := range map[string]string{
		"[FD=[F=[T=":  "[FD= [F= [T=",
		"[]]]":        "[] ]]",
		"|||||":       "||| ||",
		"|~||~|":      "|~| |~|",
		"<-><-<=<":    "<-> <- <= <",
		"{|{||}|}":    "{| {| |} |}",
		"{|}":         "{| }",
		"===>=>":      "== => =>",
		"....":        ".. ..",
		"...":         ".. .",
		":::":         ":: :",
		"/\\/\\\\":    "/\\ /\\ \\",
		"[+]+]":       "[+ ] +]",
		"[|||]":       "[| || ]",
		"!==":         "!= =",
		"@@@":         "@@ @",
		"->-":         "-> -",
		"|>|]|)|":     "|> |] |) |",
		"[>[[[":       "[> [[ [",
		"?$&^#_;,*%.": "? $ & ^ # _ ; , * % .",
	} {
		wantTokens(t, src, symbols(want)...)
	}
	wantTokens(t, "[F", symbol("["), name("F"))
	wantTokens(t, "[FD", symbol("["), name("FD"))
	wantTokens(t, "[T|", symbol("["), name("T"), symbol("|"))
}

func TestScanLeavesTheBarBehindAParenthesis(t *testing.T) {
	wantTokens(t, "(|", symbol("(|"))
	wantTokens(t, "(|)", symbols("(| )")...)
	wantTokens(t, "(| |)", symbols("(| |)")...)
	wantTokens(t, "(||)", symbols("( || )")...)
	wantTokens(t, "(|||", symbols("( |||")...)
	wantTokens(t, "(|~|", symbols("( |~|")...)
	wantTokens(t, "((|1=>2|)", symbol("("), symbol("(|"), integer(1), symbol("=>"), integer(2), symbol("|)"))
	wantError(t, "(|~", 1, 3, api.ErrSyntax)
	wantError(t, "(| ~", 1, 4, api.ErrSyntax)
}

func TestScanReturnsPositions(t *testing.T) {
	got, _, e := lexer.Scan("a ->1\r\n\t{- \xc3\xa9\n -}let--\n\n  (|~|{|")
	want := []api.Token{
		{Kind: api.TokenName, Str: "a", Pos: api.Pos{Line: 1, Col: 1}},
		{Kind: api.TokenSymbol, Str: "->", Pos: api.Pos{Line: 1, Col: 3}},
		{Kind: api.TokenInt, Int: 1, Pos: api.Pos{Line: 1, Col: 5}},
		{Kind: api.TokenKeyword, Str: "let", Pos: api.Pos{Line: 3, Col: 4}},
		{Kind: api.TokenSymbol, Str: "(", Pos: api.Pos{Line: 5, Col: 3}},
		{Kind: api.TokenSymbol, Str: "|~|", Pos: api.Pos{Line: 5, Col: 4}},
		{Kind: api.TokenSymbol, Str: "{|", Pos: api.Pos{Line: 5, Col: 7}},
	}
	if e != api.OK || !slices.Equal(got, want) {
		t.Errorf("got %v, error %d, want %v", got, e, want)
	}
	got, _, _ = lexer.Scan("{- \xc3\xa9\xff -}\r\t a")
	if len(got) != 1 || got[0].Pos != (api.Pos{Line: 1, Col: 13}) {
		t.Errorf("bytes are not counted as columns: %v", got)
	}
}

// longestSymbol is a direct reading of the chapter.
func longestSymbol(s string) string {
	if strings.HasPrefix(s, "(|~") || strings.HasPrefix(s, "(||") {
		return "("
	}
	longest := ""
	for _, c := range lexer.Symbols() {
		if strings.HasPrefix(s, c) && len(c) > len(longest) {
			longest = c
		}
	}
	return longest
}

// splitSlowly reads symbols and words of capital letters until it finds something else.
func splitSlowly(s string) ([]api.Token, bool) {
	var l []api.Token
	for s != "" {
		if rest := strings.TrimLeft(s, "DFT"); rest != s {
			l = append(l, name(s[:len(s)-len(rest)]))
			s = rest
			continue
		}
		next := longestSymbol(s)
		if next == "" {
			return nil, false
		}
		l = append(l, symbol(next))
		s = s[len(next):]
	}
	return l, true
}

func TestScanAgreesWithTheListOfSymbols(t *testing.T) {
	const bytes = "[]{}()<>|~-+/\\=!:.@FDT;"
	var extend func(src string, more int)
	extend = func(src string, more int) {
		if !strings.Contains(src, "--") && !strings.Contains(src, "{-") {
			got, _, e := lexer.Scan(src)
			want, ok := splitSlowly(src)
			if (e == api.OK) != ok || !slices.Equal(withoutPositions(got), want) {
				t.Errorf("Scan(%q) = %v, error %d, want %v", src, got, e, want)
			}
		}
		for i := 0; i < len(bytes) && more > 0; i++ {
			extend(src+bytes[i:i+1], more-1)
		}
	}
	extend("", 3)
	extend("[FD", 1)
	extend("(|", 2)
}

// P1.2

func TestScanRefusesLongSources(t *testing.T) {
	wantTokens(t, strings.Repeat(" ", api.MaxSource-1)+"a", name("a"))
	wantTokens(t, strings.Repeat("\n", api.MaxSource))
	wantError(t, strings.Repeat(" ", api.MaxSource+1), 0, 0, api.ErrFull)
	wantError(t, "~ 007"+strings.Repeat(" ", api.MaxSource), 0, 0, api.ErrFull)
}

func TestScanRefusesBytesThatStartNoItem(t *testing.T) {
	for _, src := range []string{"~", "'", "\"", "`", "\x00", "\v", "\f", "\x7f", "\x80", "\xff", "\xc3\xa9", "\xc2\xa0", "\xef\xbb\xbfa", "'a"} {
		wantError(t, src, 1, 1, api.ErrSyntax)
		wantError(t, "a\n b "+src, 2, 4, api.ErrSyntax)
	}
	wantError(t, "a\xc3\xa9", 1, 2, api.ErrSyntax)
	wantError(t, "|~", 1, 2, api.ErrSyntax)
	for c := range 256 {
		isItem := strings.IndexByte("abcdefghijklmnopqrstuvwxyzABCDEFGHIJKLMNOPQRSTUVWXYZ0123456789|[]{}()<>+-*/%\\=!:;,.?$@&^#_", byte(c)) >= 0
		isSpace := strings.IndexByte(" \t\r\n", byte(c)) >= 0
		if _, _, e := lexer.Scan(string([]byte{byte(c)})); (e == api.OK) != (isItem || isSpace) {
			t.Errorf("byte %d: error %d", c, e)
		}
	}
}

func TestScanRefusesWordsOfNoKind(t *testing.T) {
	for _, src := range []string{"00", "01", "007", "1a", "0x1", "1_", "1'", "12_3", "0'", strings.Repeat("n", api.MaxName+1), strings.Repeat("9", 100) + "a", "0" + strings.Repeat("9", 100)} {
		wantError(t, src, 1, 1, api.ErrSyntax)
		wantError(t, "{-\n-} "+src+" b", 2, 4, api.ErrSyntax)
	}
}

func TestScanRefusesLargeIntegers(t *testing.T) {
	for _, src := range []string{"9223372036854775808", "18446744073709551616", "18446744073709551617", strings.Repeat("9", 1000)} {
		wantError(t, src, 1, 1, api.ErrOverflow)
		wantError(t, "a\n "+src+" ~", 2, 2, api.ErrOverflow)
	}
	wantError(t, "9223372036854775808a", 1, 1, api.ErrSyntax)
}

func TestScanRefusesOpenComments(t *testing.T) {
	for _, src := range []string{"{-", "{-}", "{- a", "{- {- -}", "{-{-}-}", "{- - }", "{- -\n}", "{- --\n", "{-{-{--}-}"} {
		wantError(t, src, 1, 1, api.ErrSyntax)
		wantError(t, "{- -}\na "+src, 2, 3, api.ErrSyntax)
	}
}

func TestScanReturnsTheFirstError(t *testing.T) {
	wantError(t, "a 007 9223372036854775808 ~", 1, 3, api.ErrSyntax)
	wantError(t, "a 9223372036854775808 007 ~", 1, 3, api.ErrOverflow)
	wantError(t, "a ~ {-", 1, 3, api.ErrSyntax)
	wantError(t, "a {- ~ 9223372036854775808", 1, 3, api.ErrSyntax)
}

func TestScanLimitsTokens(t *testing.T) {
	full := strings.Repeat(";", api.MaxTokens)
	wantTokens(t, full, slices.Repeat([]api.Token{symbol(";")}, api.MaxTokens)...)
	wantTokens(t, full+" -- ;\n {- ; -} ", slices.Repeat([]api.Token{symbol(";")}, api.MaxTokens)...)
	for _, src := range []string{";", "a", "1", "let", "; ~", ";;", "a {-"} {
		wantError(t, full+src, 1, api.MaxTokens+1, api.ErrFull)
		wantError(t, full+"\n "+src, 2, 2, api.ErrFull)
	}
	for _, src := range []string{"007", "~", "{-", strings.Repeat("n", api.MaxName+1)} {
		wantError(t, full+"\n "+src, 2, 2, api.ErrSyntax)
	}
	wantError(t, full+"\n 9223372036854775808", 2, 2, api.ErrOverflow)
}
