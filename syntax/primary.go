package syntax

import "cspcheck/api"

// primary reads an expression without operators outside of brackets.
func (p *parser) primary() *tree {
	t := p.peek()
	n := api.Node{Op: constant(t.Str), Int: t.Int, Pos: t.Pos}
	if t.Kind == api.TokenInt {
		n.Op = api.OpInt
	}
	if n.Op != 0 {
		p.next()
		return join(n)
	}
	switch t.Str {
	case "(":
		return p.parentheses()
	case "<", "{", "{|":
		return p.collection()
	case "(|":
		return p.mapping()
	case "chase":
		return p.chase()
	case "prioritise":
		return p.prioritise()
	}
	return p.name()
}

// constant returns the operator of an expression that is one keyword or symbol, or 0.
func constant(text string) int {
	switch text {
	case "true":
		return api.OpTrue
	case "false":
		return api.OpFalse
	case "_":
		return api.OpWild
	case "STOP":
		return api.OpStop
	case "SKIP":
		return api.OpSkip
	case "DIV":
		return api.OpDiv0
	}
	return 0
}

// name reads a Name with or without ::.
func (p *parser) name() *tree {
	t := p.plainName()
	if p.take("::") {
		t.node.Str += "::" + p.expectKind(api.TokenName).Str
	}
	return t
}

// parentheses reads a Tuple, or an expression in parentheses, which is the expression itself.
func (p *parser) parentheses() *tree {
	defer p.enter(false)()
	pos := p.next().Pos
	kids := p.shortList(p.expression)
	p.expect(")")
	if len(kids) == 1 {
		return kids[0]
	}
	return join(api.Node{Op: api.OpTuple, Pos: pos}, kids...)
}

// brackets are those around a collection, with the operators of its forms; one that it does not have is 0.
type brackets struct {
	closing string
	list    int
	comp    int
	to      int
	from    int
}

func bracketsWith(opening string) brackets {
	switch opening {
	case "<":
		return brackets{closing: ">", list: api.OpSeq, comp: api.OpSeqComp, to: api.OpSeqTo, from: api.OpSeqFrom}
	case "{":
		return brackets{closing: "}", list: api.OpSet, comp: api.OpSetComp, to: api.OpSetTo}
	}
	return brackets{closing: "|}", list: api.OpEvents, comp: api.OpEvComp}
}

// collection reads a sequence, a set or a set of events.
func (p *parser) collection() *tree {
	t := p.next()
	b := bracketsWith(t.Str)
	defer p.enter(t.Str == "<")()
	op, kids := p.elements(b)
	p.expect(b.closing)
	return join(api.Node{Op: op, Pos: t.Pos}, kids...)
}

// elements reads what is between the brackets of a collection. Only the token behind the first expression tells the form.
func (p *parser) elements(b brackets) (op int, kids []*tree) {
	if p.at(b.closing) {
		return b.list, nil
	}
	first := []*tree{p.expression()}
	switch {
	case p.take("|"):
		return b.comp, append(first, p.generators())
	case p.take(","):
		return b.list, append(first, p.list(p.expression)...)
	case b.to == 0 || !p.take(".."):
		return b.list, first
	case b.from != 0 && p.at(b.closing):
		return b.from, first
	}
	return b.to, append(first, p.expression())
}

func (p *parser) mapping() *tree {
	defer p.enter(false)()
	pos := p.next().Pos
	var kids []*tree
	if !p.at("|)") {
		kids = p.list(func() *tree { return p.pair(p.expression(), "=>", levelHide) })
	}
	p.expect("|)")
	return join(api.Node{Op: api.OpMap, Pos: pos}, kids...)
}

func (p *parser) chase() *tree {
	pos := p.next().Pos
	p.expect("(")
	return join(api.Node{Op: api.OpChase, Pos: pos}, p.enclosed(")"))
}

func (p *parser) prioritise() *tree {
	pos := p.next().Pos
	p.expect("(")
	process := p.enclosed(",")
	return join(api.Node{Op: api.OpPrior, Pos: pos}, process, p.enclosed(")"))
}
