package syntax

import (
	"strings"

	"cspcheck/api"
)

// isPattern reports whether an expression is a pattern.
func isPattern(t *tree) bool {
	switch t.node.Op {
	case api.OpWild, api.OpInt, api.OpTrue, api.OpFalse:
		return true
	case api.OpName:
		return isPlain(t.node)
	case api.OpNeg:
		return t.kids[0].node.Op == api.OpInt
	case api.OpSet:
		return len(t.kids) <= 1 && arePatterns(t.kids)
	case api.OpTuple, api.OpSeq, api.OpDot, api.OpBoth:
		return arePatterns(t.kids)
	case api.OpCat:
		rests, ok := catRests(t)
		return ok && rests <= 1
	}
	return false
}

func arePatterns(kids []*tree) bool {
	for _, k := range kids {
		if !isPattern(k) {
			return false
		}
	}
	return true
}

// isPlain reports whether a Name is written without ::.
func isPlain(n api.Node) bool {
	return !strings.Contains(n.Str, "::")
}

// catRests returns the number of operands of a chain of Cats that match a rest of any length, and whether all others are patterns of a fixed length.
func catRests(t *tree) (int, bool) {
	switch t.node.Op {
	case api.OpCat:
		left, isLeft := catRests(t.kids[0])
		right, isRight := catRests(t.kids[1])
		return left + right, isLeft && isRight
	case api.OpSeq:
		return 0, isPattern(t)
	case api.OpName, api.OpWild:
		return 1, isPattern(t)
	}
	return 0, false
}
