package syntax

import "cspcheck/api"

// level tells how tightly an expression holds together. The levels have the names of the grammar.
type level int

const (
	levelNone level = iota
	levelExpr       // Lambda, If, Let and Repeat extend as far as possible
	levelHide
	levelInter
	levelPar
	levelIntern
	levelExtern
	levelSlide
	levelInterrupt
	levelSeq
	levelAction
	levelOr
	levelAnd
	levelNot
	levelCompare
	levelBoth
	levelDot
	levelCat
	levelAdd
	levelMul
	levelUnary
)

// left returns the loosest level of a left operand. Comparisons do not chain, and Actions extend to the right.
func (l level) left() level {
	if l == levelCompare || l == levelAction {
		return l + 1
	}
	return l
}

// right returns the loosest level of a right operand.
func (l level) right() level {
	if l == levelAction {
		return l
	}
	return l + 1
}

// infix is an operator between two operands that has no other parts.
type infix struct {
	text  string
	level level
	op    int
}

var infixes = [...]infix{
	{"\\", levelHide, api.OpHide},
	{"|||", levelInter, api.OpInter},
	{"|~|", levelIntern, api.OpIntern},
	{"[]", levelExtern, api.OpExtern},
	{"[>", levelSlide, api.OpSlide},
	{"/\\", levelInterrupt, api.OpInterrupt},
	{";", levelSeq, api.OpSequence},
	{"&", levelAction, api.OpGuard},
	{"or", levelOr, api.OpOr},
	{"and", levelAnd, api.OpAnd},
	{"==", levelCompare, api.OpEq},
	{"!=", levelCompare, api.OpNe},
	{"<", levelCompare, api.OpLt},
	{"<=", levelCompare, api.OpLe},
	{">", levelCompare, api.OpGt},
	{">=", levelCompare, api.OpGe},
	{"@@", levelBoth, api.OpBoth},
	{".", levelDot, api.OpDot},
	{"^", levelCat, api.OpCat},
	{"+", levelAdd, api.OpAdd},
	{"-", levelAdd, api.OpSub},
	{"*", levelMul, api.OpMul},
	{"/", levelMul, api.OpDiv},
	{"%", levelMul, api.OpMod},
}

// infixWith returns the operator with a text, or else with an op. It returns the zero infix if there is none.
func infixWith(text string, op int) infix {
	for _, x := range infixes {
		if x.text == text || x.op == op {
			return x
		}
	}
	return infix{}
}

// infixLevel returns the level of the operator at which the remaining tokens begin, or levelNone.
func (p *parser) infixLevel() level {
	switch text := p.peek().Str; text {
	case ">":
		if p.direct {
			return levelNone
		}
		return levelCompare
	case "[|", "[":
		return levelPar
	case "[+":
		return levelExtern
	case "->", "?", "$", "!":
		return levelAction
	default:
		return infixWith(text, 0).level
	}
}

// refines returns the symbol of a refinement in a model.
func refines(model int) string {
	switch model {
	case api.ModelT:
		return "[T="
	case api.ModelF:
		return "[F="
	}
	return "[FD="
}
