package core

import (
	"slices"

	"cspcheck/api"
	"cspcheck/dataspace"
	"cspcheck/preorder"
	"cspcheck/value"
)

const (
	maxFuncs = 1 << 16          // functions of a core
	maxArity = 4 * api.MaxArity // parameters of a function
	maxNest  = 4 * api.MaxNest  // nesting of a body
)

// isCore reports whether a core is valid.
func isCore(c api.Core) bool {
	if len(c.Funcs) > maxFuncs || !hasNames(c) || !hasAssertions(c) || !hasEvents(c) {
		return false
	}
	x := checker{core: c, datatypes: map[int64]bool{}}
	for _, info := range c.Names {
		x.datatypes[int64(info.Data)] = info.Data >= 0
	}
	return !slices.ContainsFunc(c.Funcs, func(f api.Func) bool { return !x.function(f) })
}

// treeOf returns the tree of the body of a function, or false if it is no tree, or the function or its body is too large.
func treeOf(f api.Func) (preorder.Code, bool) {
	if f.Arity < 0 || f.Arity > maxArity || len(f.Body) > api.MaxNodes {
		return preorder.Code{}, false
	}
	t, ok := preorder.NewCode(f.Body)
	return t, ok && t.Depth() <= maxNest
}

// isNullary reports whether a number is that of a function without parameters.
func isNullary(c api.Core, number int) bool {
	return number >= 0 && number < len(c.Funcs) && c.Funcs[number].Arity == 0
}

// hasNames reports whether the descriptions of the constructors and channels of a core are valid.
func hasNames(c api.Core) bool {
	for _, info := range c.Names {
		if len(info.Fields) > api.MaxArity || len(info.Domains) > 0 && len(info.Domains) != len(info.Fields) {
			return false
		}
		for _, f := range info.Fields {
			if !isNullary(c, f) {
				return false
			}
		}
	}
	return dataspace.Valid(c.Names)
}

// hasAssertions reports whether the assertions of a core are valid.
func hasAssertions(c api.Core) bool {
	for _, a := range c.Asserts {
		switch a.Op {
		case api.OpRefine, api.OpTrace:
			if !isNullary(c, a.Right) {
				return false
			}
		case api.OpCheck:
			if a.Right != none {
				return false
			}
		default:
			return false
		}
		if !isNullary(c, a.Left) {
			return false
		}
	}
	return true
}

// hasEvents reports whether the events of a core are valid.
func hasEvents(c api.Core) bool {
	invalid := func(v api.Value) bool { return !value.Valid(v) }
	return len(c.Events) <= api.MaxEvents && !slices.ContainsFunc(c.Events, invalid)
}
