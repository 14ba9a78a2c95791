package types_test

import (
	"cmp"
	"slices"

	"cspcheck/api"
	"cspcheck/types"
)

// This file has second implementations that follow the sentences of the chapter one by one, for small types.

// endOf returns the index behind the subtree of node i.
func endOf(l list, i int) int {
	end := i + 1
	for range l[i].Kids {
		end = endOf(l, end)
	}
	return end
}

// replacing returns a type in which a variable is replaced everywhere.
func replacing(l list, v int, by list) list {
	var out list
	for _, n := range l {
		if n == (api.TypeNode{Kind: api.TypeVar, Num: v}) {
			out = append(out, by...)
		} else {
			out = append(out, n)
		}
	}
	return out
}

func depthOf(l list, i int) int {
	deepest := 0
	next := i + 1
	for range l[i].Kids {
		deepest = max(deepest, depthOf(l, next))
		next = endOf(l, next)
	}
	return deepest + 1
}

// slowUnify replaces each variable everywhere at once. Two types differ first at their first differing nodes. It returns false if a type gets too large for it.
func slowUnify(a, b list) ([]binding, api.Errno, bool) {
	var s []binding
	for {
		if len(a) > 100000 || len(b) > 100000 {
			return nil, 0, false
		}
		i := 0
		for i < len(a) && i < len(b) && a[i] == b[i] {
			i++
		}
		if i == len(a) && i == len(b) {
			break
		}
		v, by, ok := difference(a[i:endOf(a, i)], b[i:endOf(b, i)])
		if !ok {
			return nil, api.ErrType, true
		}
		if slices.Contains(types.Vars(by), v) {
			return nil, api.ErrInfinite, true
		}
		a, b = replacing(a, v, by), replacing(b, v, by)
		for k := range s {
			s[k].Type = replacing(s[k].Type, v, by)
		}
		s = append(s, binding{Var: v, Type: by})
	}
	if len(a) > api.MaxTypeNodes || depthOf(a, 0) > api.MaxNest {
		return nil, api.ErrFull, true
	}
	slices.SortFunc(s, func(x, y binding) int { return cmp.Compare(x.Var, y.Var) })
	return s, api.OK, true
}

// difference returns the variable that has to be replaced where two types differ first, and by what, or false if no variable is there.
func difference(a, b list) (int, list, bool) {
	isA, isB := a[0].Kind == api.TypeVar, b[0].Kind == api.TypeVar
	switch {
	case isA && isB:
		return max(a[0].Num, b[0].Num), variable(min(a[0].Num, b[0].Num)), true
	case isA:
		return a[0].Num, b, true
	case isB:
		return b[0].Num, a, true
	}
	return 0, nil, false
}

// slowMatch tries to replace the variables of a by the parts of b that stand in their places.
func slowMatch(a, b list) ([]binding, bool) {
	found := map[int]list{}
	if !collect(found, a, b) {
		return nil, false
	}
	var s []binding
	for v, x := range found {
		s = append(s, binding{Var: v, Type: x})
	}
	slices.SortFunc(s, func(x, y binding) int { return cmp.Compare(x.Var, y.Var) })
	return s, slices.Equal(types.Apply(s, a), b)
}

// collect finds what stands in the places of variables. It returns false if two types have other nodes.
func collect(found map[int]list, a, b list) bool {
	if a[0].Kind == api.TypeVar {
		found[a[0].Num] = b
		return true
	}
	if a[0] != b[0] {
		return false
	}
	i, j := 1, 1
	for range a[0].Kids {
		if !collect(found, a[i:endOf(a, i)], b[j:endOf(b, j)]) {
			return false
		}
		i, j = endOf(a, i), endOf(b, j)
	}
	return true
}

// belongs reports whether a type belongs to a class if just the given variables do.
func belongs(l list, class int, variables []int) bool {
	equality := class != api.ClassOrd
	switch l[0].Kind {
	case api.TypeVar:
		return slices.Contains(variables, l[0].Num)
	case api.TypeInt, api.TypeBool:
		return true
	case api.TypeEvent, api.TypeData:
		return equality
	case api.TypeSeq, api.TypeTuple:
	case api.TypeSet, api.TypeMap, api.TypeDot, api.TypeExt:
		if !equality {
			return false
		}
	default:
		return false
	}
	next := 1
	for range l[0].Kids {
		if !belongs(l[next:endOf(l, next)], class, variables) {
			return false
		}
		next = endOf(l, next)
	}
	return true
}
