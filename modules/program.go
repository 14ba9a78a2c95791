package modules

import "cspcheck/api"

// program is a valid program with its modules and their instances.
type program struct {
	tree
	modules    map[int]*module      // by their nodes
	topModules map[string]*module   // by name, the first Module with it that is a declaration of the program
	instances  map[string][]*module // by name, the modules of the instances with it, of which only a program with errors has several
}

func newProgram(p []api.Node) *program {
	x := &program{
		tree:       newTree(p),
		modules:    map[int]*module{},
		topModules: map[string]*module{},
		instances:  map[string][]*module{},
	}
	outer := x.constantsIn(0)
	for i, n := range p {
		if n.Op == api.OpModule {
			x.modules[i] = newModule(x.tree, i, outer)
		}
	}
	x.findTopModules()
	x.findInstances()
	return x
}

func (x *program) findTopModules() {
	for _, d := range x.declarations(0) {
		m := x.modules[d]
		if name := x.Nodes[d].Str; m != nil && x.topModules[name] == nil {
			x.topModules[name] = m
		}
	}
}

func (x *program) findInstances() {
	for i, n := range x.Nodes {
		if m := x.moduleOf(i); m != nil {
			x.instances[n.Str] = append(x.instances[n.Str], m)
		}
	}
}

// moduleOf returns the module of which a node makes an instance with its name, or nil.
func (x *program) moduleOf(i int) *module {
	switch x.Nodes[i].Op {
	case api.OpModule:
		if m := x.modules[i]; len(m.parameters) == 0 {
			return m
		}
	case api.OpInstance:
		return x.topModules[x.Nodes[x.Kids(i)[0]].Str]
	}
	return nil
}

// arguments returns the arguments of an Instance. A Module has none.
func (x *program) arguments(i int) []int {
	if x.Nodes[i].Op != api.OpInstance {
		return nil
	}
	return x.Kids(x.Kids(i)[1])
}
