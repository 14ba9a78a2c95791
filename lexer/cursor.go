package lexer

import (
	"strings"

	"cspcheck/api"
)

// cursor is a place in a source: the bytes that are left, and the position of the first of them.
type cursor struct {
	rest string
	pos  api.Pos
}

func (c *cursor) advance(size int) {
	for i := 0; i < size; i++ {
		c.pos.Col++
		if c.rest[i] == '\n' {
			c.pos = api.Pos{Line: c.pos.Line + 1, Col: 1}
		}
	}
	c.rest = c.rest[size:]
}

// skip passes white space and comments. It stops before a comment that is not closed and returns false there.
func (c *cursor) skip() bool {
	for {
		size, closed := gap(c.rest)
		if !closed || size == 0 {
			return closed
		}
		c.advance(size)
	}
}

// gap returns the size of the white space byte or the comment that begins s, and whether the comment is closed. The size is 0 if there is neither.
func gap(s string) (int, bool) {
	if s == "" {
		return 0, true
	}
	switch s[0] {
	case ' ', '\t', '\r', '\n':
		return 1, true
	case '-':
		if strings.HasPrefix(s, "--") {
			return lineSize(s), true
		}
	case '{':
		if strings.HasPrefix(s, "{-") {
			return commentSize(s)
		}
	}
	return 0, true
}

// lineSize returns the number of bytes of s before its first line feed.
func lineSize(s string) int {
	if end := strings.IndexByte(s, '\n'); end >= 0 {
		return end
	}
	return len(s)
}

// commentSize returns the size of the nested comment that begins s, and whether it is closed.
func commentSize(s string) (int, bool) {
	depth := 0
	for i := 0; i < len(s); {
		switch {
		case strings.HasPrefix(s[i:], "{-"):
			depth++
			i += 2
		case strings.HasPrefix(s[i:], "-}"):
			depth--
			i += 2
		default:
			i++
		}
		if depth == 0 {
			return i, true
		}
	}
	return 0, false
}
