package modules

import "cspcheck/api"

// constants are the names of the constructors and channels that are visible in patterns, where they do not bind: those of the module around, and those of the program outside of modules.
type constants struct {
	own   map[string]bool
	outer map[string]bool
}

func (c constants) has(name string) bool {
	return c.own[name] || c.outer[name]
}

// variables returns the names that bind in a pattern, in the order of their occurrences.
func (t tree) variables(pattern int, c constants) []string {
	var l []string
	for _, n := range t.Subtree(pattern) {
		if n.Op == api.OpName && !c.has(n.Str) {
			l = append(l, n.Str)
		}
	}
	return l
}

// distinct returns the first occurrence of each name.
func distinct(names []string) []string {
	var l []string
	seen := map[string]bool{}
	for _, name := range names {
		if !seen[name] {
			seen[name] = true
			l = append(l, name)
		}
	}
	return l
}

// binders returns the parts of a node by which it binds names: patterns, and the Funs of a Let.
func (t tree) binders(i int) []int {
	kids := t.Kids(i)
	switch t.Nodes[i].Op {
	case api.OpFun, api.OpLambda:
		return t.Kids(kids[0])
	case api.OpLet:
		return t.letBinders(i)
	case api.OpSeqComp, api.OpSetComp, api.OpEvComp, api.OpRename, api.OpRepeat:
		return t.patternsOf(t.generators(kids))
	case api.OpPrefix:
		return t.patternsOf(kids)
	}
	return nil
}

func (t tree) letBinders(i int) []int {
	var l []int
	for _, d := range t.declarations(i) {
		switch t.Nodes[d].Op {
		case api.OpFun:
			l = append(l, d)
		case api.OpBind:
			l = append(l, t.Kids(d)[0])
		}
	}
	return l
}

// generators returns the children of the Params among some nodes.
func (t tree) generators(nodes []int) []int {
	for _, i := range nodes {
		if t.Nodes[i].Op == api.OpParams {
			return t.Kids(i)
		}
	}
	return nil
}

// patternsOf returns the patterns of the Gens, Inputs and Somes among some nodes.
func (t tree) patternsOf(nodes []int) []int {
	var l []int
	for _, i := range nodes {
		switch t.Nodes[i].Op {
		case api.OpGen, api.OpInput, api.OpSome:
			l = append(l, t.Kids(i)[0])
		}
	}
	return l
}

// boundBy returns the names that a binder binds.
func (t tree) boundBy(binder int, c constants) []string {
	if n := t.Nodes[binder]; n.Op == api.OpFun {
		return []string{n.Str}
	}
	return t.variables(binder, c)
}
