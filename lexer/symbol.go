package lexer

import "strings"

// symbolAt returns the symbol that is read where s begins, or the empty string.
func symbolAt(s string) string {
	if s == "" {
		return ""
	}
	switch s[0] {
	case '[':
		return firstPrefix(s, "[FD=", "[T=", "[F=", "[|", "[]", "[>", "[+", "[[", "[")
	case '|':
		return firstPrefix(s, "|~|", "|||", "||", "|]", "|>", "|}", "|)", "|")
	case '<':
		return firstPrefix(s, "<->", "<-", "<=", "<")
	case '(':
		return parenthesisAt(s)
	case ']':
		return firstPrefix(s, "]]", "]")
	case '+':
		return firstPrefix(s, "+]", "+")
	case '{':
		return firstPrefix(s, "{|", "{")
	case '>':
		return firstPrefix(s, ">=", ">")
	case '-':
		return firstPrefix(s, "->", "-")
	case '/':
		return firstPrefix(s, "/\\", "/")
	case '=':
		return firstPrefix(s, "=>", "==", "=")
	case '!':
		return firstPrefix(s, "!=", "!")
	case ':':
		return firstPrefix(s, "::", ":")
	case '.':
		return firstPrefix(s, "..", ".")
	case '@':
		return firstPrefix(s, "@@", "@")
	case '}', ')', '*', '%', '\\', ';', ',', '?', '$', '&', '^', '#', '_':
		return s[:1]
	}
	return ""
}

// parenthesisAt leaves the bar to an operator behind the parenthesis: (|~| and (||| begin a replicated process, not a map.
func parenthesisAt(s string) string {
	if strings.HasPrefix(s, "(|~") || strings.HasPrefix(s, "(||") {
		return "("
	}
	return firstPrefix(s, "(|", "(")
}

// firstPrefix returns the first of the candidates that begins s, or the empty string.
func firstPrefix(s string, candidates ...string) string {
	for _, c := range candidates {
		if strings.HasPrefix(s, c) {
			return c
		}
	}
	return ""
}
