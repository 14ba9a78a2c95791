package pattern

import (
	"slices"

	"cspcheck/api"
	"cspcheck/value"
)

// A builder makes the value of a pattern from those of its variables.
type builder struct {
	pattern []api.Code
	vars    []api.Value // of the variables that it has not reached yet
}

// build returns the value of the pattern at index i, which is not valid if there is none, and where the pattern ends.
func (b *builder) build(i int) (api.Value, int) {
	node := b.pattern[i]
	i++
	if node.Op == api.PatVar {
		v := b.vars[0]
		b.vars = b.vars[1:]
		return v, i
	}
	parts := make([]api.Value, node.Kids)
	for k := range parts {
		parts[k], i = b.build(i)
	}
	return join(node, parts), i
}

// join returns the value of a pattern whose children have the values l. It is not valid if one of these is not.
func join(node api.Code, l []api.Value) api.Value {
	switch node.Op {
	case api.PatInt:
		return value.Int(node.Int)
	case api.PatBool:
		return value.Bool(node.Int == 1)
	case api.PatTuple:
		return value.Tuple(l)
	case api.PatSeq:
		return value.Seq(l)
	case api.PatSet:
		return value.Set(l)
	case api.PatDot:
		return value.Dot(int(node.Int), l)
	case api.PatCat:
		return insert(l, int(node.Int))
	}
	// A PatWild, PatBoth or PatPair denotes no value.
	return ""
}

// insert returns the sequence of the values l in which the elements of the sequence at index rest take its place.
func insert(l []api.Value, rest int) api.Value {
	if value.Kind(l[rest]) != api.ValSeq {
		return ""
	}
	return value.Seq(slices.Concat(l[:rest], value.Parts(l[rest]), l[rest+1:]))
}

// tooLong reports whether values are longer in all than a value can be. The value of a pattern is at least as long as those of its variables, so this saves the time for making long parts of a value that is not valid.
func tooLong(l []api.Value) bool {
	length := 0
	for _, v := range l {
		length += len(v)
	}
	return length > api.MaxValue
}
