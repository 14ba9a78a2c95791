package scope

import (
	"slices"

	"cspcheck/api"
	"cspcheck/preorder"
)

// unit is a function with all its clauses, or a Bind. Its symbols are ascending.
type unit struct {
	symbols []int
	parts   [][]api.Node
}

// unitsOf returns the units of a block that declare something, in the order of their symbols.
func unitsOf(p []api.Node, s []api.Symbol, block int) []unit {
	var l []unit
	for _, d := range preorder.Kids(p, block) {
		part := p[d:preorder.End(p, d)]
		symbols := declaredBy(part, s)
		last := len(l) - 1
		switch {
		case len(symbols) == 0:
		case last >= 0 && slices.Equal(l[last].symbols, symbols): // a further clause
			l[last].parts = append(l[last].parts, part)
		default:
			l = append(l, unit{symbols, [][]api.Node{part}})
		}
	}
	return l
}

// declaredBy returns the functions or variables that a declaration declares.
func declaredBy(declaration []api.Node, s []api.Symbol) []int {
	var names []api.Node
	switch declaration[0].Op {
	case api.OpFun:
		names = []api.Node{{Op: api.OpName, Int: declaration[0].Int}}
	case api.OpBind:
		names = declaration[1:preorder.End(declaration, 1)]
	}
	var l []int
	for _, n := range names {
		if k, ok := denoted(n, s); ok && (s[k].Kind == api.SymGlobal || s[k].Kind == api.SymLocal) {
			l = append(l, k)
		}
	}
	return l
}

// usesOf returns for each unit the units that it uses.
func usesOf(units []unit, s []api.Symbol) [][]int {
	unitOf := map[int]int{}
	for u, x := range units {
		for _, k := range x.symbols {
			unitOf[k] = u
		}
	}
	uses := make([][]int, len(units))
	for u, x := range units {
		for _, n := range slices.Concat(x.parts...) {
			k, isName := denoted(n, s)
			if v, ok := unitOf[k]; ok && isName {
				uses[u] = append(uses[u], v)
			}
		}
	}
	return uses
}
