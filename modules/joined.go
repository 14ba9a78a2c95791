package modules

import (
	"slices"
	"strings"

	"cspcheck/api"
	"cspcheck/syntax"
)

const separator = "::"

// withSingleNames returns the nodes of a tree with single names in the places of joined ones.
func withSingleNames(p []api.Node) []api.Node {
	p = slices.Clone(p)
	joined := map[string]bool{} // most names occur often, and each takes some time to judge
	for i, n := range p {
		if !mayBeJoined(n.Op) || !strings.Contains(n.Str, separator) {
			continue
		}
		if _, ok := joined[n.Str]; !ok {
			joined[n.Str] = isJoined(n.Str)
		}
		if joined[n.Str] {
			p[i].Str = "Single"
		}
	}
	return p
}

// mayBeJoined reports whether the name of a node with an operator may be a joined one.
func mayBeJoined(op int) bool {
	switch op {
	case api.OpName, api.OpFun, api.OpSig, api.OpData, api.OpCon, api.OpNametype, api.OpTypeName:
		return true
	}
	return false
}

// isJoined reports whether a text with a separator is a joined name.
func isJoined(s string) bool {
	for part := range strings.SplitSeq(s, separator) {
		if part != "Timed" && !isNumber(part) && !isName(part) {
			return false
		}
	}
	return true
}

func isNumber(s string) bool {
	return s != "" && strings.Trim(s, "0123456789") == ""
}

// isName leaves it to syntax to tell what a name is, because the lexer is not for this layer to call.
func isName(s string) bool {
	return syntax.Valid([]api.Node{
		{Op: api.OpProgram, Kids: 1},
		{Op: api.OpFun, Str: s, Kids: 2},
		{Op: api.OpParams},
		{Op: api.OpStop},
	})
}
