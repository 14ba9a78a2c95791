// Package lexer is layer 1: tokens of the source.
package lexer

import (
	"strconv"
	"strings"

	"cspcheck/api"
)

// Scan returns the tokens of a source, or the position of its first error.
func Scan(src string) ([]api.Token, api.Pos, api.Errno) {
	if len(src) > api.MaxSource {
		return nil, api.Pos{}, api.ErrFull
	}
	var tokens []api.Token
	c := cursor{rest: src, pos: api.Pos{Line: 1, Col: 1}}
	for {
		if !c.skip() {
			return nil, c.pos, api.ErrSyntax
		}
		if c.rest == "" {
			return tokens, api.Pos{}, api.OK
		}
		t, size, e := item(c.rest)
		if e == api.OK && len(tokens) == api.MaxTokens {
			e = api.ErrFull
		}
		if e != api.OK {
			return nil, c.pos, e
		}
		t.Pos = c.pos
		tokens = append(tokens, t)
		c.advance(size)
	}
}

// Valid reports whether a token can be a result of Scan, apart from its position.
func Valid(t api.Token) bool {
	switch t.Kind {
	case api.TokenInt:
		return t.Int >= 0 && t.Str == ""
	case api.TokenName, api.TokenKeyword, api.TokenSymbol:
		t.Pos = api.Pos{}
		// Equal tokens have equal texts, so the item is all of t.Str.
		got, _, e := item(t.Str)
		return e == api.OK && got == t
	}
	return false
}

// Symbols returns the symbols, the longer ones first.
func Symbols() []string {
	return []string{
		"[FD=", "|~|", "|||", "<->", "[T=", "[F=",
		"||", "|]", "|>", "|}", "|)", "[|", "[]", "[>", "[+", "[[", "]]", "+]", "{|", "(|",
		"<-", "<=", ">=", "->", "/\\", "=>", "==", "!=", "::", "..", "@@",
		"|", "[", "]", "{", "}", "(", ")", "<", ">", "+", "-", "*", "/", "%", "\\", "=", "!",
		":", ";", ",", ".", "?", "$", "@", "&", "^", "#", "_",
	}
}

// Format returns the texts of tokens, separated by spaces, or the empty string if one of them is not valid.
func Format(l []api.Token) string {
	var b strings.Builder
	for i, t := range l {
		if !Valid(t) {
			return ""
		}
		if i > 0 {
			b.WriteByte(' ')
		}
		b.WriteString(text(t))
	}
	return b.String()
}

func text(t api.Token) string {
	if t.Kind == api.TokenInt {
		return strconv.FormatInt(t.Int, 10)
	}
	return t.Str
}

// item reads the item that begins s. It returns its token without a position and its number of bytes.
func item(s string) (api.Token, int, api.Errno) {
	if word := wordAt(s); word != "" {
		t, e := wordToken(word)
		return t, len(word), e
	}
	if symbol := symbolAt(s); symbol != "" {
		return api.Token{Kind: api.TokenSymbol, Str: symbol}, len(symbol), api.OK
	}
	return api.Token{}, 0, api.ErrSyntax
}
