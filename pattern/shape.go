package pattern

import "cspcheck/api"

const minTuple = 2 // components

// none is where no pattern ends.
const none = -1

// isPattern reports whether p is a single pattern, whatever the names of its dotted values are.
func isPattern(p []api.Code) bool {
	return len(p) <= api.MaxNodes && end(p, 0, api.MaxNest) == len(p)
}

// end returns where the pattern at index i ends, or none if there is no pattern that is nested at most so deep.
func end(p []api.Code, i, nest int) int {
	if i >= len(p) || nest == 0 || !permitted(p[i]) {
		return none
	}
	node := p[i]
	i++
	for k := range node.Kids {
		first := i
		i = end(p, first, nest-1)
		if i == none || node.Op == api.PatCat && int64(k) == node.Int && !matchesAll(p[first]) {
			return none
		}
	}
	return i
}

// permitted reports whether the Int and the number of children of a node are those of a pattern.
func permitted(node api.Code) bool {
	kids := node.Kids
	switch node.Op {
	case api.PatVar, api.PatWild:
		return node.Int == 0 && kids == 0
	case api.PatInt:
		return kids == 0
	case api.PatBool:
		return (node.Int == 0 || node.Int == 1) && kids == 0
	case api.PatTuple:
		return node.Int == 0 && kids >= minTuple && kids <= api.MaxArity
	case api.PatSeq:
		return node.Int == 0 && kids >= 0
	case api.PatCat:
		return node.Int >= 0 && node.Int < int64(kids)
	case api.PatSet:
		return node.Int == 0 && (kids == 0 || kids == 1)
	case api.PatDot:
		return kids >= 0
	case api.PatPair, api.PatBoth:
		return node.Int == 0 && kids == 2
	}
	return false
}

// belongs reports whether a list has the name of a PatDot with as many fields.
func belongs(dot api.Code, names []api.Info) bool {
	return dot.Int >= 0 && dot.Int < int64(len(names)) && dot.Kids <= len(names[dot.Int].Fields)
}

// matchesAll reports whether a node of a pattern is one that matches every value.
func matchesAll(node api.Code) bool {
	return node.Op == api.PatVar || node.Op == api.PatWild
}

// canFail reports whether a node of a pattern can make it refutable.
func canFail(node api.Code) bool {
	return !matchesAll(node) && node.Op != api.PatTuple && node.Op != api.PatBoth
}
