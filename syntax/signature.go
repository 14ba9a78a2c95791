package syntax

import (
	"slices"

	"cspcheck/api"
)

// signature reads a Sig. Its classes come before its type.
func (p *parser) signature() *tree {
	name := p.expectKind(api.TokenName)
	p.expect("::")
	var kids []*tree
	if p.at("(") && p.isNameAt(1) && p.isNameAt(2) {
		p.next()
		kids = p.list(p.class)
		p.expect(")")
		p.expect("=>")
	}
	kids = append(kids, p.signatureType())
	return join(api.Node{Op: api.OpSig, Str: name.Str, Pos: name.Pos}, kids...)
}

func (p *parser) class() *tree {
	name := p.expectKind(api.TokenName)
	if !startsLower(p.peek().Str) {
		p.fail()
	}
	return join(api.Node{Op: api.OpClass, Str: name.Str, Pos: name.Pos}, p.typeName())
}

func startsLower(s string) bool {
	return s != "" && 'a' <= s[0] && s[0] <= 'z'
}

// typeName reads a TypeVar or a TypeName.
func (p *parser) typeName() *tree {
	t := p.expectKind(api.TokenName)
	op := api.OpTypeName
	if startsLower(t.Str) {
		op = api.OpTypeVar
	}
	return join(api.Node{Op: op, Str: t.Str, Pos: t.Pos})
}

// signatureType reads a type. The components of a tuple before an arrow are parameters.
func (p *parser) signatureType() *tree {
	left := p.typeExt()
	if !p.at("->") {
		return left
	}
	pos := p.next().Pos
	kids := []*tree{left}
	if left.node.Op == api.OpTypeTuple {
		kids = left.kids
	}
	return join(api.Node{Op: api.OpTypeFun, Pos: pos}, slices.Concat(kids, []*tree{p.signatureType()})...)
}

func (p *parser) typeExt() *tree {
	left := p.typeDot()
	if !p.at("=>") {
		return left
	}
	pos := p.next().Pos
	return join(api.Node{Op: api.OpTypeExt, Pos: pos}, left, p.typeExt())
}

func (p *parser) typeDot() *tree {
	left := p.typeBase()
	for p.at(".") {
		pos := p.next().Pos
		right := p.item(spine(left, api.OpTypeDot)+1, p.typeBase)
		left = join(api.Node{Op: api.OpTypeDot, Pos: pos}, left, right)
	}
	return left
}

func (p *parser) typeBase() *tree {
	pos := p.peek().Pos
	switch {
	case p.take("<"):
		return p.typeInside(api.Node{Op: api.OpTypeSeq, Pos: pos}, ">")
	case p.take("{"):
		return p.typeInside(api.Node{Op: api.OpTypeSet, Pos: pos}, "}")
	case p.take("(|"):
		key := p.typeDot()
		p.expect("=>")
		value := p.signatureType()
		p.expect("|)")
		return join(api.Node{Op: api.OpTypeMap, Pos: pos}, key, value)
	case p.take("("):
		kids := p.shortList(p.signatureType)
		p.expect(")")
		if len(kids) == 1 {
			return kids[0]
		}
		return join(api.Node{Op: api.OpTypeTuple, Pos: pos}, kids...)
	}
	return p.typeName()
}

func (p *parser) typeInside(n api.Node, closing string) *tree {
	inner := p.signatureType()
	p.expect(closing)
	return join(n, inner)
}
