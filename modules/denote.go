package modules

import "cspcheck/api"

// finder finds the names in a module that denote its members.
type finder struct {
	tree
	module *module
	bound  []string       // the names that are bound around the current node, the latest one last
	times  map[string]int // how often a name is among them
	found  []bool         // by node
}

// denoting tells for each node of a program without errors whether its name denotes a member of the module around it.
func (x *program) denoting() []bool {
	found := make([]bool, len(x.Nodes))
	for _, m := range x.modules {
		f := finder{tree: x.tree, module: m, times: map[string]int{}, found: found}
		f.readAll(f.declarations(m.node))
	}
	return found
}

// read finds names in a subtree. A pattern is read where its own names are visible, so that what is found in it are the names that do not bind (no other pattern of the module binds them, but a Fun of a Let may) and the members that a Bind of the module declares.
func (f *finder) read(i int) {
	f.use(i)
	outside := len(f.bound)
	kids := f.InScopeOrder(i)
	switch f.Nodes[i].Op {
	case api.OpGen, api.OpInput, api.OpSome:
		pattern := len(kids) - 1
		f.readAll(kids[:pattern])
		f.bind(kids[pattern:])
		f.readAll(kids[pattern:])
		return // its names are bound up to the end of the node to which it belongs
	case api.OpParams:
		f.readAll(kids)
		return
	case api.OpFun, api.OpLambda, api.OpLet:
		f.bind(f.binders(i))
	}
	f.readAll(kids)
	f.unbind(outside)
}

func (f *finder) readAll(nodes []int) {
	for _, i := range nodes {
		f.read(i)
	}
}

// use decides on the name of a node. The name of a type is hidden by nothing.
func (f *finder) use(i int) {
	n := f.Nodes[i]
	k := f.module.members[n.Str]
	switch n.Op {
	case api.OpTypeName:
		f.found[i] = k == kindData
	case api.OpName, api.OpFun, api.OpSig, api.OpData, api.OpCon, api.OpNametype:
		f.found[i] = k != 0 && f.times[n.Str] == 0
	}
}

// bind makes the names of binders visible.
func (f *finder) bind(binders []int) {
	for _, b := range binders {
		for _, name := range f.boundBy(b, f.module.constants) {
			f.bound = append(f.bound, name)
			f.times[name]++
		}
	}
}

// unbind forgets all bound names but the first ones.
func (f *finder) unbind(count int) {
	for _, name := range f.bound[count:] {
		f.times[name]--
	}
	f.bound = f.bound[:count]
}
