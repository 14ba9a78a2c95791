package syntax

import (
	"strings"

	"cspcheck/api"
)

// The shape of a node is the text in which it is written, in words separated by spaces, with a role in the place of each child and the word Text in that of its own text. A node whose number of children does not suit has a shape with another number of roles.
//
// A role tells which trees may stand at a place and how they are written there. It begins with a capital letter, as the parts of the grammar do. Expr and Type are those of the grammar; Operand and Base stand for the parts of an Expr and a Type, which may need parentheses, and Domain for a Base that is not a tuple. Claim is the first expression of an assertion, Plain a Name without ::. Pattern, Formal and Left are patterns: Formal is one in the place of an Expr, and Left is that of a Bind.

// isRole reports whether a word of a shape stands for a child.
func isRole(word string) bool {
	switch word {
	case "Text", "Timed", "STOP", "SKIP", "DIV":
		return false
	}
	return 'A' <= word[0] && word[0] <= 'Z'
}

// shape returns the shape of a tree at a place with a role.
func shape(role string, t *tree) string {
	switch n := t.node; {
	case n.Op == api.OpParams:
		return listShape(role, t)
	case n.Op == api.OpPair:
		return pairShape(role)
	case n.Op <= api.OpBlock:
		return declarationShape(n)
	case n.Op >= api.OpTypeName:
		return typeShape(n)
	case n.Op >= api.OpStop:
		return processShape(n)
	default:
		return expressionShape(n)
	}
}

// several returns a role n times, but at least and at most as many times as is permitted, with a separator in between.
func several(role, separator string, n, least, most int) string {
	n = min(max(n, least), most)
	if n == 0 {
		return ""
	}
	return role + strings.Repeat(" "+separator+" "+role, n-1)
}

// commas returns a role n times, but at least as many times as is permitted, with commas in between.
func commas(role string, n, least int) string {
	return several(role, ",", n, least, api.MaxNodes)
}

// listShape returns the shape of a Params node.
func listShape(role string, t *tree) string {
	n := len(t.kids)
	switch role {
	case "Parameters":
		return inParentheses("Formal", n)
	case "Names":
		return inParentheses("Plain", n)
	case "Arguments":
		return inParentheses("Expr", n)
	case "Patterns":
		return commas("Pattern", n, 1)
	case "Links":
		return commas("Link", n, 1)
	case "Renames":
		return renamesShape(t.kids)
	}
	return commas("Gen", n, 1)
}

// inParentheses returns the shape of a list that is not written if it is empty.
func inParentheses(role string, n int) string {
	if n == 0 {
		return ""
	}
	return "( " + several(role, ",", n, 1, api.MaxArity) + " )"
}

// renamesShape returns the shape of pairs, with generators and conditions behind them.
func renamesShape(kids []*tree) string {
	pairs := 0
	for pairs < len(kids) && kids[pairs].node.Op == api.OpPair {
		pairs++
	}
	s := commas("Rename", pairs, 1)
	if pairs < len(kids) {
		s += " | " + commas("Gen", len(kids)-pairs, 1)
	}
	return s
}

func pairShape(role string) string {
	switch role {
	case "Link":
		return "Operand <-> Operand"
	case "Rename":
		return "Operand <- Operand"
	}
	return "Expr => Expr"
}

func declarationShape(n api.Node) string {
	switch n.Op {
	case api.OpProgram, api.OpBlock:
		return several("Decl", "", n.Kids, 1, api.MaxNodes)
	case api.OpFun:
		return "Text Parameters = Expr"
	case api.OpBind:
		return "Left = Expr"
	case api.OpSig:
		if n.Kids > 1 {
			return "Text :: ( " + commas("Class", n.Kids-1, 1) + " ) => Type"
		}
		return "Text :: Type"
	case api.OpData:
		return "datatype Text = " + several("Con", "|", n.Kids, 1, api.MaxNodes)
	case api.OpCon:
		if n.Kids == 0 {
			return "Text"
		}
		return "Text . " + several("Operand", ".", n.Kids, 1, api.MaxArity)
	case api.OpNametype:
		return "nametype Text = Expr"
	case api.OpChannel:
		if n.Int == 0 {
			return "channel " + commas("Plain", n.Kids, 1)
		}
		return "channel " + commas("Plain", n.Kids-1, 1) + " : Expr"
	case api.OpModule:
		if n.Kids == 3 {
			return "module Text Names Block exports Block endmodule"
		}
		return "module Text Names Block endmodule"
	case api.OpInstance:
		return "instance Text = Plain Arguments"
	case api.OpTimed:
		return "Timed ( Plain ) Block endtimed"
	}
	return assertionShape(n)
}

func assertionShape(n api.Node) string {
	s := "assert Claim"
	if n.Int < 0 {
		s = "assert not Claim"
		n.Int = -n.Int
	}
	switch n.Op {
	case api.OpRefine:
		return s + " " + refines(int(n.Int)) + " Expr"
	case api.OpTrace:
		return s + " : [ has trace ] : Expr"
	}
	switch n.Int {
	case api.PropDeadlock:
		return s + " : [ deadlock free ]"
	case api.PropDivergence:
		return s + " : [ divergence free ]"
	}
	return s + " : [ deterministic ]"
}

func expressionShape(n api.Node) string {
	switch n.Op {
	case api.OpName, api.OpInt:
		return "Text"
	case api.OpTrue:
		return "true"
	case api.OpFalse:
		return "false"
	case api.OpWild:
		return "_"
	case api.OpTuple:
		return "( " + several("Expr", ",", n.Kids, 2, api.MaxArity) + " )"
	case api.OpSeq:
		return "< " + commas("Operand", n.Kids, 0) + " >"
	case api.OpSet:
		return "{ " + commas("Expr", n.Kids, 0) + " }"
	case api.OpMap:
		return "(| " + commas("Entry", n.Kids, 0) + " |)"
	case api.OpEvents:
		return "{| " + commas("Expr", n.Kids, 0) + " |}"
	case api.OpSeqFrom:
		return "< Operand .. >"
	case api.OpSeqTo:
		return "< Operand .. Operand >"
	case api.OpSetTo:
		return "{ Expr .. Expr }"
	case api.OpSeqComp:
		return "< Operand | Gens >"
	case api.OpSetComp:
		return "{ Expr | Gens }"
	case api.OpEvComp:
		return "{| Expr | Gens |}"
	}
	return operatorShape(n)
}

func operatorShape(n api.Node) string {
	switch n.Op {
	case api.OpGen:
		return "Pattern <- Operand"
	case api.OpApply:
		return "Operand ( " + several("Expr", ",", n.Kids-1, 0, api.MaxArity) + " )"
	case api.OpLen:
		return "# Operand"
	case api.OpNeg:
		return "- Operand"
	case api.OpNot:
		return "not Operand"
	case api.OpIf:
		return "if Expr then Expr else Expr"
	case api.OpLet:
		return "let Block within Expr"
	case api.OpLambda:
		return "\\ Patterns @ Expr"
	}
	return "Operand " + infixWith("", n.Op).text + " Operand"
}

func processShape(n api.Node) string {
	switch n.Op {
	case api.OpStop:
		return "STOP"
	case api.OpSkip:
		return "SKIP"
	case api.OpDiv0:
		return "DIV"
	case api.OpPrefix:
		return "Operand " + several("Field", "", n.Kids-2, 0, api.MaxArity) + " -> Operand"
	case api.OpInput:
		return fieldShape("?", n.Kids)
	case api.OpSome:
		return fieldShape("$", n.Kids)
	case api.OpOutput:
		return "! Operand"
	case api.OpThrow:
		return "Operand [| Expr |> Operand"
	case api.OpSync:
		return "Operand [+ Expr +] Operand"
	case api.OpParallel:
		return "Operand [| Expr |] Operand"
	case api.OpAlpha:
		return "Operand [ Expr || Expr ] Operand"
	case api.OpLink:
		return "Operand [ Links ] Operand"
	case api.OpRename:
		return "Operand [[ Renames ]]"
	case api.OpRepeat:
		return repeatShape(int(n.Int))
	case api.OpPrior:
		return "prioritise ( Expr , Expr )"
	case api.OpChase:
		return "chase ( Expr )"
	}
	return operatorShape(n)
}

func fieldShape(symbol string, kids int) string {
	if kids == 1 {
		return symbol + " Pattern"
	}
	return symbol + " Pattern : Operand"
}

func repeatShape(op int) string {
	switch op {
	case api.OpParallel:
		return "[| Expr |] Gens @ Expr"
	case api.OpSync:
		return "[+ Expr +] Gens @ Expr"
	case api.OpAlpha:
		return "|| Gens @ [ Expr ] Expr"
	}
	return infixWith("", op).text + " Gens @ Expr"
}

func typeShape(n api.Node) string {
	switch n.Op {
	case api.OpTypeSeq:
		return "< Type >"
	case api.OpTypeSet:
		return "{ Type }"
	case api.OpTypeMap:
		return "(| Base => Type |)"
	case api.OpTypeTuple:
		return "( " + several("Type", ",", n.Kids, 2, api.MaxArity) + " )"
	case api.OpTypeFun:
		if n.Kids <= 2 {
			return "Domain -> Type"
		}
		return "( " + several("Type", ",", n.Kids-1, 2, api.MaxArity) + " ) -> Type"
	case api.OpTypeDot:
		return "Base . Base"
	case api.OpTypeExt:
		return "Base => Base"
	case api.OpClass:
		return "Text Variable"
	}
	return "Text"
}
