package layout

import (
	"cspcheck/api"
	"cspcheck/lexer"
)

// builder makes the result of Insert, one token of the argument after another. A keyword that waits for its block is kept by its position; the zero Pos means that none waits.
type builder struct {
	tokens   []api.Token
	columns  []int   // of the open blocks, the innermost one last
	last     api.Pos // of the latest token of the argument
	nextItem api.Pos // the let or exports whose block begins with the next token
	nextLine api.Pos // the module or Timed whose block begins with the next line
}

func newBuilder() *builder {
	b := &builder{}
	b.openBlock(api.Pos{Line: 1, Col: 1})
	return b
}

// add appends a token of the argument, behind the tokens that are inserted before it.
func (b *builder) add(t api.Token) api.Errno {
	if !lexer.Valid(t) || !isAfter(t.Pos, b.last) {
		return api.ErrInvalid
	}
	isFirst := b.last == (api.Pos{})
	startsLine := t.Pos.Line > b.last.Line
	e := api.OK
	switch {
	case isFirst:
		if t.Pos.Col != 1 {
			e = api.ErrLayout
		}
	case b.answer(startsLine):
		e = b.begin(t)
	default:
		b.proceed(t, startsLine)
	}
	if e != api.OK {
		return e
	}
	b.tokens = append(b.tokens, t)
	b.last = t.Pos
	b.await(t)
	return api.OK
}

// isAfter reports whether p is a position behind q, which may be the zero Pos.
func isAfter(p, q api.Pos) bool {
	if p.Line < 1 || p.Col < 1 {
		return false
	}
	return p.Line > q.Line || p.Line == q.Line && p.Col > q.Col
}

// answer reports whether the next token begins the block of a keyword, which waits no longer. A let or exports comes before a module or Timed, which then waits for another line.
func (b *builder) answer(startsLine bool) bool {
	switch {
	case b.nextItem != (api.Pos{}):
		b.nextItem = api.Pos{}
		return true
	case startsLine && b.nextLine != (api.Pos{}):
		b.nextLine = api.Pos{}
		return true
	}
	return false
}

// await notes a keyword that has a block. A module or Timed that is still waiting is forgotten for a later one.
func (b *builder) await(t api.Token) {
	if t.Kind != api.TokenKeyword {
		return
	}
	switch t.Str {
	case "let", "exports":
		b.nextItem = t.Pos
	case "module", "Timed":
		b.nextLine = t.Pos
	}
}

// unanswered returns the position of the first keyword that still waits for its block, or the zero Pos. A let or exports that waits is the latest token, so a waiting module or Timed is before it.
func (b *builder) unanswered() api.Pos {
	if b.nextLine != (api.Pos{}) {
		return b.nextLine
	}
	return b.nextItem
}

// begin opens the block that t begins, which is empty if t is a closer. It closes no other block.
func (b *builder) begin(t api.Token) api.Errno {
	if isCloser(t) {
		b.openBlock(t.Pos)
		b.closeBlock(t.Pos)
		return api.OK
	}
	if t.Pos.Col <= b.column() {
		return api.ErrLayout
	}
	if len(b.columns) == api.MaxNest {
		return api.ErrFull
	}
	b.openBlock(t.Pos)
	return api.OK
}

// proceed closes the blocks that t ends, and separates t from the declaration before it.
func (b *builder) proceed(t api.Token, startsLine bool) {
	open := len(b.columns)
	for startsLine && t.Pos.Col < b.column() {
		b.closeBlock(t.Pos)
	}
	if isCloser(t) {
		if len(b.columns) == open && open > 1 {
			b.closeBlock(t.Pos)
		}
		return
	}
	if startsLine && t.Pos.Col == b.column() {
		b.insert(api.TokenSep, t.Pos)
	}
}

func isCloser(t api.Token) bool {
	if t.Kind != api.TokenKeyword {
		return false
	}
	switch t.Str {
	case "within", "exports", "endmodule", "endtimed":
		return true
	}
	return false
}

// column returns the column of the innermost block. While tokens are added, the block of the program is open.
func (b *builder) column() int {
	return b.columns[len(b.columns)-1]
}

func (b *builder) openBlock(pos api.Pos) {
	b.insert(api.TokenOpen, pos)
	b.columns = append(b.columns, pos.Col)
}

func (b *builder) closeBlock(pos api.Pos) {
	b.insert(api.TokenClose, pos)
	b.columns = b.columns[:len(b.columns)-1]
}

func (b *builder) insert(kind int, pos api.Pos) {
	b.tokens = append(b.tokens, api.Token{Kind: kind, Pos: pos})
}
