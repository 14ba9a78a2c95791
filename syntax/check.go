package syntax

import (
	"strings"

	"cspcheck/api"
	"cspcheck/lexer"
)

// fits reports whether a tree may stand at a place with a role.
func fits(role string, t *tree) bool {
	return isPermitted(role, t.node.Op) && hasValue(t.node) && haveRoles(t.kids, shape(role, t)) && isProper(role, t)
}

// haveRoles reports whether children fit the roles of a shape, one each.
func haveRoles(kids []*tree, shape string) bool {
	for word := range strings.FieldsSeq(shape) {
		if !isRole(word) {
			continue
		}
		if len(kids) == 0 || !fits(word, kids[0]) {
			return false
		}
		kids = kids[1:]
	}
	return len(kids) == 0
}

// isPermitted reports whether a node with an operator may stand at a place with a role.
func isPermitted(role string, op int) bool {
	switch role {
	case "Program":
		return op == api.OpProgram
	case "Block":
		return op == api.OpBlock
	case "Decl":
		return api.OpFun <= op && op <= api.OpTrace && op != api.OpCon
	case "Con":
		return op == api.OpCon
	case "Class":
		return op == api.OpClass
	case "Variable":
		return op == api.OpTypeVar
	case "Type", "Base":
		return isType(op)
	case "Domain":
		return isType(op) && op != api.OpTypeTuple
	case "Plain":
		return op == api.OpName
	case "Field":
		return op == api.OpInput || op == api.OpSome || op == api.OpOutput
	case "Gen":
		return op == api.OpGen || isExpression(op)
	case "Link", "Rename", "Entry":
		return op == api.OpPair
	case "Parameters", "Names", "Arguments", "Patterns", "Gens", "Links", "Renames":
		return op == api.OpParams
	}
	return isExpression(op)
}

func isType(op int) bool {
	return api.OpTypeName <= op && op <= api.OpTypeExt
}

func isExpression(op int) bool {
	switch op {
	case api.OpSetFrom, api.OpGen, api.OpInput, api.OpOutput, api.OpSome, api.OpPair:
		return false
	}
	return api.OpName <= op && op <= api.OpBoth || api.OpStop <= op && op <= api.OpChase
}

// hasValue reports whether a node has an Int and a Str that its operator permits.
func hasValue(n api.Node) bool {
	switch n.Op {
	case api.OpFun, api.OpSig, api.OpData, api.OpCon, api.OpNametype, api.OpModule, api.OpInstance, api.OpClass:
		return n.Int == 0 && isName(n.Str)
	case api.OpName:
		first, second, isLong := strings.Cut(n.Str, "::")
		return n.Int == 0 && isName(first) && (!isLong || isName(second))
	case api.OpTypeName:
		return n.Int == 0 && isName(n.Str) && !startsLower(n.Str)
	case api.OpTypeVar:
		return n.Int == 0 && isName(n.Str) && startsLower(n.Str)
	}
	return n.Str == "" && hasNumber(n)
}

func isName(s string) bool {
	return lexer.Valid(api.Token{Kind: api.TokenName, Str: s})
}

func hasNumber(n api.Node) bool {
	switch n.Op {
	case api.OpInt:
		return n.Int >= 0
	case api.OpChannel:
		return n.Int == 0 || n.Int == 1
	case api.OpTrace:
		return n.Int == 1 || n.Int == -1
	case api.OpRefine:
		return n.Int != 0 && -api.ModelFD <= n.Int && n.Int <= api.ModelFD
	case api.OpCheck:
		return n.Int != 0 && -api.PropDeterministic <= n.Int && n.Int <= api.PropDeterministic
	case api.OpRepeat:
		switch n.Int {
		case api.OpExtern, api.OpIntern, api.OpInter, api.OpSequence, api.OpParallel, api.OpSync, api.OpAlpha:
			return true
		}
		return false
	}
	return n.Int == 0
}

// isProper reports whether a tree whose parts fit is also, as a whole, what its role demands.
func isProper(role string, t *tree) bool {
	if !isShort(t) {
		return false
	}
	switch role {
	case "Pattern", "Formal":
		return isPattern(t)
	case "Left":
		return isPattern(t) && t.node.Op != api.OpName
	case "Plain":
		return isPlain(t.node)
	}
	return true
}

// isShort reports whether a Dot or a TypeDot has at most MaxArity parts.
func isShort(t *tree) bool {
	op := t.node.Op
	return op != api.OpDot && op != api.OpTypeDot || spine(t, op) <= api.MaxArity
}
