package lexer

import (
	"strconv"

	"cspcheck/api"
)

// wordAt returns the word that begins s, or the empty string.
func wordAt(s string) string {
	if s == "" || !isLetter(s[0]) && !isDigit(s[0]) {
		return ""
	}
	size := 1
	for size < len(s) && continuesWord(s[size]) {
		size++
	}
	return s[:size]
}

func wordToken(word string) (api.Token, api.Errno) {
	switch {
	case isDigit(word[0]):
		return integerToken(word)
	case isKeyword(word):
		return api.Token{Kind: api.TokenKeyword, Str: word}, api.OK
	case len(word) <= api.MaxName:
		return api.Token{Kind: api.TokenName, Str: word}, api.OK
	}
	return api.Token{}, api.ErrSyntax
}

func integerToken(word string) (api.Token, api.Errno) {
	if word[0] == '0' && word != "0" {
		return api.Token{}, api.ErrSyntax
	}
	for i := range len(word) {
		if !isDigit(word[i]) {
			return api.Token{}, api.ErrSyntax
		}
	}
	n, err := strconv.ParseInt(word, 10, 64)
	if err != nil {
		return api.Token{}, api.ErrOverflow
	}
	return api.Token{Kind: api.TokenInt, Int: n}, api.OK
}

func isKeyword(word string) bool {
	switch word {
	case "and", "or", "not", "if", "then", "else", "let", "within", "true", "false",
		"datatype", "nametype", "channel", "module", "exports", "endmodule", "instance",
		"Timed", "endtimed", "assert", "STOP", "SKIP", "DIV", "chase", "prioritise":
		return true
	}
	return false
}

func isLetter(c byte) bool {
	return 'a' <= c && c <= 'z' || 'A' <= c && c <= 'Z'
}

func isDigit(c byte) bool {
	return '0' <= c && c <= '9'
}

func continuesWord(c byte) bool {
	return isLetter(c) || isDigit(c) || c == '_' || c == '\''
}
