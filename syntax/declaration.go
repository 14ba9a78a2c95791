package syntax

import (
	"slices"

	"cspcheck/api"
)

func (p *parser) program() *tree {
	t := p.declarations(api.OpProgram)
	if len(p.rest) > 0 {
		p.fail()
	}
	return t
}

// declarations reads a Program or a Block.
func (p *parser) declarations(op int) *tree {
	pos := p.expectKind(api.TokenOpen).Pos
	kids := []*tree{p.declaration()}
	for p.takeKind(api.TokenSep) {
		kids = append(kids, p.declaration())
	}
	p.expectKind(api.TokenClose)
	return join(api.Node{Op: op, Pos: pos}, kids...)
}

func (p *parser) block() *tree {
	return p.declarations(api.OpBlock)
}

func (p *parser) declaration() *tree {
	switch p.peek().Str {
	case "datatype":
		return p.datatype()
	case "nametype":
		return p.nametype()
	case "channel":
		return p.channel()
	case "module":
		return p.module()
	case "instance":
		return p.instance()
	case "Timed":
		return p.timed()
	case "assert":
		return p.assertion()
	}
	return p.definition()
}

// definition reads a Fun, a Sig or a Bind. The token behind a name tells which one it is.
func (p *parser) definition() *tree {
	if p.isNameAt(0) && len(p.rest) > 1 {
		switch p.rest[1].Str {
		case "=", "(":
			return p.function()
		case "::":
			return p.signature()
		}
	}
	return p.bind()
}

func (p *parser) function() *tree {
	name := p.expectKind(api.TokenName)
	var kids []*tree
	if p.take("(") {
		kids = p.shortList(p.parameter)
		p.expect(")")
	}
	p.expect("=")
	return join(api.Node{Op: api.OpFun, Str: name.Str, Pos: name.Pos}, params(kids), p.expression())
}

func (p *parser) parameter() *tree {
	return p.pattern(p.expression())
}

// pattern checks an expression that is complete and must be a pattern. The next token is the first one that does not continue it.
func (p *parser) pattern(t *tree) *tree {
	if !isPattern(t) {
		p.fail()
	}
	return t
}

func (p *parser) bind() *tree {
	pos := p.peek().Pos
	left := p.pattern(p.operand(levelBoth))
	if left.node.Op == api.OpName {
		p.fail()
	}
	p.expect("=")
	return join(api.Node{Op: api.OpBind, Pos: pos}, left, p.expression())
}

func (p *parser) datatype() *tree {
	pos := p.next().Pos
	name := p.expectKind(api.TokenName)
	p.expect("=")
	kids := []*tree{p.constructor()}
	for p.take("|") {
		kids = append(kids, p.constructor())
	}
	return join(api.Node{Op: api.OpData, Str: name.Str, Pos: pos}, kids...)
}

func (p *parser) constructor() *tree {
	name := p.expectKind(api.TokenName)
	field := func() *tree { return p.operand(levelCat) }
	var kids []*tree
	for p.take(".") {
		kids = append(kids, p.item(len(kids)+1, field))
	}
	return join(api.Node{Op: api.OpCon, Str: name.Str, Pos: name.Pos}, kids...)
}

func (p *parser) nametype() *tree {
	pos := p.next().Pos
	name := p.expectKind(api.TokenName)
	p.expect("=")
	return join(api.Node{Op: api.OpNametype, Str: name.Str, Pos: pos}, p.expression())
}

func (p *parser) channel() *tree {
	n := api.Node{Op: api.OpChannel, Pos: p.next().Pos}
	kids := p.list(p.plainName)
	if p.take(":") {
		n.Int = 1
		kids = append(kids, p.expression())
	}
	return join(n, kids...)
}

// plainName reads a Name without ::.
func (p *parser) plainName() *tree {
	t := p.expectKind(api.TokenName)
	return join(api.Node{Op: api.OpName, Str: t.Str, Pos: t.Pos})
}

func (p *parser) module() *tree {
	pos := p.next().Pos
	name := p.expectKind(api.TokenName)
	var names []*tree
	if p.take("(") {
		names = p.shortList(p.plainName)
		p.expect(")")
	}
	kids := []*tree{params(names), p.block()}
	if p.take("exports") {
		kids = append(kids, p.block())
	}
	p.expect("endmodule")
	return join(api.Node{Op: api.OpModule, Str: name.Str, Pos: pos}, kids...)
}

func (p *parser) instance() *tree {
	pos := p.next().Pos
	name := p.expectKind(api.TokenName)
	p.expect("=")
	of := p.plainName()
	var arguments []*tree
	if p.take("(") {
		arguments = p.shortList(p.expression)
		p.expect(")")
	}
	return join(api.Node{Op: api.OpInstance, Str: name.Str, Pos: pos}, of, params(arguments))
}

func (p *parser) timed() *tree {
	pos := p.next().Pos
	p.expect("(")
	delay := p.plainName()
	p.expect(")")
	block := p.block()
	p.expect("endtimed")
	return join(api.Node{Op: api.OpTimed, Pos: pos}, delay, block)
}

func (p *parser) assertion() *tree {
	pos := p.next().Pos
	sign := int64(1)
	if p.take("not") {
		sign = -1
	}
	left := p.expression()
	n, right := p.claim()
	n.Int *= sign
	n.Pos = pos
	return join(n, slices.Concat([]*tree{left}, right)...)
}

// claim reads what an assertion says of its first expression. It returns the node of the assertion and its second expression, if there is one.
func (p *parser) claim() (api.Node, []*tree) {
	for model := api.ModelT; model <= api.ModelFD; model++ {
		if p.take(refines(model)) {
			return api.Node{Op: api.OpRefine, Int: int64(model)}, []*tree{p.expression()}
		}
	}
	p.expect(":")
	p.expect("[")
	if p.take("has") {
		p.expect("trace")
		p.expect("]")
		p.expect(":")
		return api.Node{Op: api.OpTrace, Int: 1}, []*tree{p.expression()}
	}
	n := api.Node{Op: api.OpCheck, Int: p.property()}
	p.expect("]")
	return n, nil
}

func (p *parser) property() int64 {
	switch {
	case p.take("deadlock"):
		p.expect("free")
		return api.PropDeadlock
	case p.take("divergence"):
		p.expect("free")
		return api.PropDivergence
	}
	p.expect("deterministic")
	return api.PropDeterministic
}
