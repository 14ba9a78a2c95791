package syntax

import (
	"strconv"
	"strings"

	"cspcheck/api"
)

// writer writes the text of a tree. The indentation is that of the current line.
type writer struct {
	text   strings.Builder
	indent int
	isOpen bool // the current line has a token
}

func (w *writer) program(t *tree) {
	w.declarations(t, 0)
	w.text.WriteByte('\n')
}

func (w *writer) declarations(t *tree, indent int) {
	for _, k := range t.kids {
		w.startLine(indent)
		w.parts("Decl", k)
	}
}

func (w *writer) startLine(indent int) {
	if w.text.Len() > 0 {
		w.text.WriteByte('\n')
	}
	w.text.WriteString(strings.Repeat(" ", indent))
	w.indent = indent
	w.isOpen = false
}

func (w *writer) word(s string) {
	if w.isOpen {
		w.text.WriteByte(' ')
	}
	w.text.WriteString(s)
	w.isOpen = true
}

// child writes a child of a node with the operator parent.
func (w *writer) child(role string, t *tree, parent int) {
	switch {
	case role == "Block":
		w.block(t, parent == api.OpLet)
	case needsParentheses(role, t.node.Op):
		w.word("(")
		w.parts(role, t)
		w.word(")")
	default:
		w.parts(role, t)
	}
}

// block writes the lines of a block and starts the line behind them. The within of a let must not be in the column of an outer block.
func (w *writer) block(t *tree, isLet bool) {
	indent := w.indent
	w.declarations(t, indent+2)
	if isLet {
		indent++
	}
	w.startLine(indent)
}

// parts writes the words of the shape of a tree.
func (w *writer) parts(role string, t *tree) {
	rest := t.kids
	for word := range strings.FieldsSeq(shape(role, t)) {
		switch {
		case word == "Text":
			w.word(ownText(t.node))
		case isRole(word):
			w.child(word, rest[0], t.node.Op)
			rest = rest[1:]
		default:
			w.word(word)
		}
	}
}

// ownText returns the tokens of the Str or Int of a node.
func ownText(n api.Node) string {
	if n.Op == api.OpInt {
		return strconv.FormatInt(n.Int, 10)
	}
	return strings.Replace(n.Str, "::", " :: ", 1)
}

// needsParentheses reports whether a node is written in parentheses at a place with a role.
func needsParentheses(role string, op int) bool {
	switch role {
	case "Operand", "Pattern", "Left":
		return !isPrimary(op)
	case "Gen":
		return op != api.OpGen && !isPrimary(op)
	case "Claim":
		return op == api.OpNot
	case "Base", "Domain":
		return op == api.OpTypeFun || op == api.OpTypeDot || op == api.OpTypeExt
	}
	return false
}

// isPrimary reports whether an expression with an operator is a form of Primary.
func isPrimary(op int) bool {
	switch op {
	case api.OpName, api.OpInt, api.OpTrue, api.OpFalse, api.OpWild, api.OpStop, api.OpSkip, api.OpDiv0,
		api.OpTuple, api.OpSeq, api.OpSeqFrom, api.OpSeqTo, api.OpSeqComp, api.OpSet, api.OpSetTo, api.OpSetComp,
		api.OpEvents, api.OpEvComp, api.OpMap, api.OpChase, api.OpPrior:
		return true
	}
	return false
}
