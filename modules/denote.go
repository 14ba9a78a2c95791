package modules

import "cspcheck/api"

// finder finds the names in a module that denote its members.
type finder struct {
	tree
	module *module
	bound  []string       // the names that are bound around the current node, the latest one last
	times  map[string]int // how often a name is among them
	found  []bool         // by node
}

// denoting tells for each node of a program without errors whether its name denotes a member of the module around it.
func (x *program) denoting() []bool {
	found := make([]bool, len(x.nodes))
	for _, m := range x.modules {
		f := finder{tree: x.tree, module: m, times: map[string]int{}, found: found}
		f.members(m.node)
	}
	return found
}

// members finds names in the declarations of a module, or of a Timed in it.
func (f *finder) members(i int) {
	for _, d := range f.declarations(i) {
		switch f.nodes[d].Op {
		case api.OpBind:
			f.topPattern(f.kids(d)[0])
			f.read(d)
		case api.OpTimed:
			f.read(f.kids(d)[0])
			f.members(d)
		default:
			f.read(d)
		}
	}
}

// topPattern finds names in a pattern whose variables are members.
func (f *finder) topPattern(pattern int) {
	f.constantsOf(pattern)
	for i := pattern; i < f.ends[pattern]; i++ {
		if n := f.nodes[i]; n.Op == api.OpName && !f.module.constants.has(n.Str) {
			f.found[i] = true
		}
	}
}

// constantsOf finds the names of constructors and channels in a pattern, where they are not hidden by anything.
func (f *finder) constantsOf(pattern int) {
	for i := pattern; i < f.ends[pattern]; i++ {
		if n := f.nodes[i]; n.Op == api.OpName && f.module.constants.own[n.Str] {
			f.found[i] = true
		}
	}
}

// read finds names in what is not a pattern. It goes through the children of a node in such an order that the names that a child binds are visible in the later ones.
func (f *finder) read(i int) {
	f.use(i)
	outside := len(f.bound)
	kids := f.kids(i)
	switch f.nodes[i].Op {
	case api.OpGen, api.OpInput, api.OpSome:
		f.readAll(kids[1:])
		f.bind(kids[:1])
		return // its names are bound up to the end of the node to which it belongs
	case api.OpParams:
		f.readAll(f.withPairsLast(kids))
		return
	case api.OpFun, api.OpLambda:
		f.bind(f.binders(i))
		f.readAll(kids[1:])
	case api.OpBind:
		f.readAll(kids[1:])
	case api.OpLet:
		f.bind(f.binders(i))
		f.readAll(kids)
	case api.OpSeqComp, api.OpSetComp, api.OpEvComp:
		f.readAll(kids[1:])
		f.read(kids[0])
	default:
		f.readAll(kids)
	}
	f.unbind(outside)
}

func (f *finder) readAll(nodes []int) {
	for _, i := range nodes {
		f.read(i)
	}
}

// withPairsLast returns nodes with the Pairs of a Rename behind its Gens.
func (f *finder) withPairsLast(nodes []int) []int {
	var pairs, others []int
	for _, i := range nodes {
		if f.nodes[i].Op == api.OpPair {
			pairs = append(pairs, i)
		} else {
			others = append(others, i)
		}
	}
	return append(others, pairs...)
}

// use decides on the name of a node. The name of a type is hidden by nothing.
func (f *finder) use(i int) {
	n := f.nodes[i]
	k := f.module.members[n.Str]
	switch n.Op {
	case api.OpTypeName:
		f.found[i] = k == kindData
	case api.OpName, api.OpFun, api.OpSig, api.OpData, api.OpCon, api.OpNametype:
		f.found[i] = k != 0 && f.times[n.Str] == 0
	}
}

// bind makes the names of binders visible.
func (f *finder) bind(binders []int) {
	for _, b := range binders {
		if f.nodes[b].Op != api.OpFun {
			f.constantsOf(b)
		}
		for _, name := range f.boundBy(b, f.module.constants) {
			f.bound = append(f.bound, name)
			f.times[name]++
		}
	}
}

// unbind forgets all bound names but the first ones.
func (f *finder) unbind(count int) {
	for _, name := range f.bound[count:] {
		f.times[name]--
	}
	f.bound = f.bound[:count]
}
