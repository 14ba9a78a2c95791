package syntax

import (
	"slices"

	"cspcheck/api"
)

func (p *parser) expression() *tree {
	return p.operand(levelHide)
}

// operand reads an expression whose operators bind at least as tightly as a level.
func (p *parser) operand(least level) *tree {
	t, _ := p.binary(least)
	return t
}

// binary reads an operand. It also returns the level of what it has read, which is that of its outermost operator.
func (p *parser) binary(least level) (*tree, level) {
	left, reached := p.leading(least)
	for {
		next := p.infixLevel()
		if next < least || reached < next.left() {
			return left, reached
		}
		left, reached = p.infix(left, next), next
	}
}

// leading reads an operand up to its first infix operator.
func (p *parser) leading(least level) (*tree, level) {
	t := p.peek()
	n := api.Node{Pos: t.Pos}
	switch t.Str {
	case "\\", "if", "let", "[]", "|~|", "|||", ";", "[|", "[+", "||":
		if least <= levelAction {
			return p.greedy(), levelExpr
		}
	case "not":
		if least <= levelNot {
			p.next()
			n.Op = api.OpNot
			return join(n, p.operand(levelNot)), levelNot
		}
	case "-", "#":
		p.next()
		n.Op = api.OpNeg
		if t.Str == "#" {
			n.Op = api.OpLen
		}
		return join(n, p.operand(levelUnary)), levelUnary
	}
	return p.postfixed(), levelUnary
}

// infix reads an operator and what follows it.
func (p *parser) infix(left *tree, at level) *tree {
	switch p.peek().Str {
	case "[|":
		return p.shared(left)
	case "[":
		return p.bracketed(left)
	case "[+":
		return p.synchronized(left)
	case "->", "?", "$", "!":
		return p.prefix(left)
	}
	t := p.next()
	n := api.Node{Op: infixWith(t.Str, 0).op, Pos: t.Pos}
	right := func() *tree { return p.operand(at.right()) }
	if n.Op == api.OpDot {
		return join(n, left, p.item(spine(left, api.OpDot)+1, right))
	}
	return join(n, left, right())
}

// postfixed reads a Primary and the calls and renamings behind it.
func (p *parser) postfixed() *tree {
	t := p.primary()
	for {
		switch pos := p.peek().Pos; {
		case p.take("("):
			t = join(api.Node{Op: api.OpApply, Pos: pos}, slices.Concat([]*tree{t}, p.arguments())...)
		case p.take("[["):
			t = join(api.Node{Op: api.OpRename, Pos: pos}, t, p.renames())
		default:
			return t
		}
	}
}

// arguments reads the rest of a call.
func (p *parser) arguments() []*tree {
	if p.take(")") {
		return nil
	}
	defer p.enter(false)()
	l := p.shortList(p.expression)
	p.expect(")")
	return l
}

// renames reads the rest of a renaming: its pairs, and the generators and conditions behind them.
func (p *parser) renames() *tree {
	defer p.enter(false)()
	l := p.list(func() *tree { return p.pair(p.operand(levelDot), "<-", levelDot) })
	if p.take("|") {
		l = append(l, p.list(p.generator)...)
	}
	p.expect("]]")
	return params(l)
}

// pair reads the rest of a Pair.
func (p *parser) pair(left *tree, arrow string, least level) *tree {
	pos := p.expect(arrow)
	return join(api.Node{Op: api.OpPair, Pos: pos}, left, p.operand(least))
}

// generators reads generators and conditions.
func (p *parser) generators() *tree {
	return params(p.list(p.generator))
}

// generator reads a Gen or a condition. Only the token behind the first part tells which one it is.
func (p *parser) generator() *tree {
	left := p.operand(levelOr)
	if !p.at("<-") && !p.at(":") {
		return left
	}
	p.pattern(left)
	pos := p.next().Pos
	return join(api.Node{Op: api.OpGen, Pos: pos}, left, p.operand(levelOr))
}

// greedy reads a Lambda, an If, a Let or a Repeat.
func (p *parser) greedy() *tree {
	switch n := (api.Node{Pos: p.peek().Pos}); {
	case p.take("\\"):
		n.Op = api.OpLambda
		patterns := p.list(func() *tree { return p.pattern(p.operand(levelBoth)) })
		p.expect("@")
		return join(n, params(patterns), p.expression())
	case p.take("if"):
		n.Op = api.OpIf
		condition := p.expression()
		p.expect("then")
		positive := p.expression()
		p.expect("else")
		return join(n, condition, positive, p.expression())
	case p.take("let"):
		n.Op = api.OpLet
		block := p.block()
		p.expect("within")
		return join(n, block, p.expression())
	}
	return p.repeat()
}
