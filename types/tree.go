package types

import "cspcheck/api"

const maxNum = 1 << 30 // the greatest number of a variable or datatype

// behindType returns the nodes behind the type that begins a list, or false if none begins it that is nested at most nest deep.
func behindType(t []api.TypeNode, nest int) ([]api.TypeNode, bool) {
	if len(t) == 0 || nest == 0 || !validNode(t[0]) {
		return nil, false
	}
	rest, ok := t[1:], true
	for range t[0].Kids {
		rest, ok = behindType(rest, nest-1)
		if !ok {
			return nil, false
		}
	}
	return rest, true
}

// validNode reports whether a node has a number and children as its kind permits.
func validNode(n api.TypeNode) bool {
	least, most := 0, 0
	switch n.Kind {
	case api.TypeVar, api.TypeData:
		return n.Kids == 0 && n.Num >= 0 && n.Num <= maxNum
	case api.TypeInt, api.TypeBool, api.TypeEvent, api.TypeProc:
	case api.TypeSeq, api.TypeSet:
		least, most = 1, 1
	case api.TypeMap, api.TypeDot, api.TypeExt:
		least, most = 2, 2
	case api.TypeTuple:
		least, most = 2, api.MaxArity
	case api.TypeFun:
		least, most = 1, api.MaxArity+1
	default:
		return false
	}
	return n.Num == 0 && n.Kids >= least && n.Kids <= most
}

// sizeOf returns the number of nodes of the type that begins a list. There must be one.
func sizeOf(t []api.TypeNode) int {
	size := 0
	for missing := 1; missing > 0; size++ {
		missing += t[size].Kids - 1
	}
	return size
}
