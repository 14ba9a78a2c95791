package syntax

import (
	"slices"

	"cspcheck/api"
)

// repeat reads a replicated operator.
func (p *parser) repeat() *tree {
	t := p.next()
	n := api.Node{Op: api.OpRepeat, Pos: t.Pos}
	switch t.Str {
	case "[|":
		n.Int = api.OpParallel
		set := p.enclosed("|]")
		return join(n, set, p.indices(), p.expression())
	case "[+":
		n.Int = api.OpSync
		set := p.enclosed("+]")
		return join(n, set, p.indices(), p.expression())
	case "||":
		n.Int = api.OpAlpha
		indices := p.indices()
		p.expect("[")
		set := p.enclosed("]")
		return join(n, indices, set, p.expression())
	}
	n.Int = int64(infixWith(t.Str, 0).op)
	indices := p.indices()
	return join(n, indices, p.expression())
}

// indices reads the generators of a replicated operator.
func (p *parser) indices() *tree {
	t := p.generators()
	p.expect("@")
	return t
}

// inner reads an expression that is inside brackets.
func (p *parser) inner() *tree {
	defer p.enter(false)()
	return p.expression()
}

// enclosed reads an expression that is inside brackets, and the closing one.
func (p *parser) enclosed(closing string) *tree {
	t := p.inner()
	p.expect(closing)
	return t
}

// shared reads the rest of a Parallel or a Throw.
func (p *parser) shared(left *tree) *tree {
	n := api.Node{Op: api.OpParallel, Pos: p.next().Pos}
	set := p.inner()
	if p.take("|>") {
		n.Op = api.OpThrow
	} else {
		p.expect("|]")
	}
	return join(n, left, set, p.operand(levelPar.right()))
}

// synchronized reads the rest of a Sync.
func (p *parser) synchronized(left *tree) *tree {
	pos := p.next().Pos
	set := p.enclosed("+]")
	return join(api.Node{Op: api.OpSync, Pos: pos}, left, set, p.operand(levelExtern.right()))
}

// bracketed reads the rest of an Alpha or a Link.
func (p *parser) bracketed(left *tree) *tree {
	pos := p.next().Pos
	op, middle := p.interfaces()
	p.expect("]")
	right := p.operand(levelPar.right())
	return join(api.Node{Op: op, Pos: pos}, slices.Concat([]*tree{left}, middle, []*tree{right})...)
}

// interfaces reads what is between the brackets of an Alpha or a Link. Only the token behind the first expression tells which one it is.
func (p *parser) interfaces() (op int, middle []*tree) {
	defer p.enter(false)()
	first, reached := p.binary(levelHide)
	if !p.at("<->") {
		p.expect("||")
		return api.OpAlpha, []*tree{first, p.expression()}
	}
	if reached < levelDot {
		p.fail()
	}
	return api.OpLink, []*tree{p.links(first)}
}

// links reads the pairs of a Link, of which the first left part has been read.
func (p *parser) links(first *tree) *tree {
	l := []*tree{p.pair(first, "<->", levelDot)}
	for p.take(",") {
		l = append(l, p.pair(p.operand(levelDot), "<->", levelDot))
	}
	return params(l)
}

// prefix reads the rest of a Prefix.
func (p *parser) prefix(event *tree) *tree {
	kids := []*tree{event}
	for p.at("?") || p.at("$") || p.at("!") {
		kids = append(kids, p.item(len(kids), p.field))
	}
	pos := p.expect("->")
	kids = append(kids, p.operand(levelAction))
	return join(api.Node{Op: api.OpPrefix, Pos: pos}, kids...)
}

// field reads an Input, a Some or an Output.
func (p *parser) field() *tree {
	t := p.next()
	n := api.Node{Op: api.OpInput, Pos: t.Pos}
	switch t.Str {
	case "!":
		n.Op = api.OpOutput
		return join(n, p.primary())
	case "$":
		n.Op = api.OpSome
	}
	kids := []*tree{p.pattern(p.primary())}
	if p.take(":") {
		kids = append(kids, p.operand(levelAdd))
	}
	return join(n, kids...)
}
