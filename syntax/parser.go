package syntax

import "cspcheck/api"

// parser reads a Program from its remaining tokens. After a syntax error no tokens remain, so that every method returns soon; what it returns then has no meaning.
type parser struct {
	rest      []api.Token
	direct    bool // directly inside < and >, where > closes the sequence
	failed    bool
	failedAt  api.Pos
	crowded   bool // a list exceeds MaxArity
	crowdedAt api.Pos
}

// fail notes a syntax error at the next token, or with the zero Pos if no token is left.
func (p *parser) fail() {
	if !p.failed {
		p.failed = true
		p.failedAt = p.peek().Pos
	}
	p.rest = nil
}

// peek returns the next token, or the zero Token if none is left.
func (p *parser) peek() api.Token {
	if len(p.rest) == 0 {
		return api.Token{}
	}
	return p.rest[0]
}

func (p *parser) next() api.Token {
	t := p.peek()
	if len(p.rest) > 0 {
		p.rest = p.rest[1:]
	}
	return t
}

// at reports whether the next token has the given text. No two kinds of tokens share a text.
func (p *parser) at(text string) bool {
	return p.peek().Str == text
}

func (p *parser) take(text string) bool {
	if !p.at(text) {
		return false
	}
	p.next()
	return true
}

// expect reads the token with the given text and returns its position.
func (p *parser) expect(text string) api.Pos {
	if !p.at(text) {
		p.fail()
	}
	return p.next().Pos
}

func (p *parser) takeKind(kind int) bool {
	if p.peek().Kind != kind {
		return false
	}
	p.next()
	return true
}

func (p *parser) expectKind(kind int) api.Token {
	if p.peek().Kind != kind {
		p.fail()
	}
	return p.next()
}

// isNameAt reports whether the token i of those that are left is a name.
func (p *parser) isNameAt(i int) bool {
	return i < len(p.rest) && p.rest[i].Kind == api.TokenName
}

// enter notes whether what follows is directly inside < and >, and returns a function that ends this.
func (p *parser) enter(direct bool) (leave func()) {
	outer := p.direct
	p.direct = direct
	return func() { p.direct = outer }
}

// list reads one or more items that are separated by commas.
func (p *parser) list(item func() *tree) []*tree {
	l := []*tree{item()}
	for p.take(",") {
		l = append(l, item())
	}
	return l
}

// shortList reads a list that may have at most MaxArity items.
func (p *parser) shortList(item func() *tree) []*tree {
	n := 0
	return p.list(func() *tree {
		n++
		return p.item(n, item)
	})
}

// item reads item n of a list that may have at most MaxArity items. The first one beyond is noted before those of the lists inside it.
func (p *parser) item(n int, read func() *tree) *tree {
	isFirst := n > api.MaxArity && !p.crowded
	if isFirst {
		p.crowded = true
	}
	t := read()
	if isFirst {
		p.crowdedAt = t.node.Pos
	}
	return t
}
