package modules

import "cspcheck/api"

// builder makes the list of the nodes of a flat program.
type builder struct {
	nodes        []api.Node
	declarations int
}

func (b *builder) add(declaration []api.Node) {
	b.nodes = append(b.nodes, declaration...)
	b.declarations++
}

func (b *builder) isFull() bool {
	return len(b.nodes) > api.MaxNodes
}

func (b *builder) program() []api.Node {
	b.nodes[0].Kids = b.declarations
	return b.nodes
}

// expanded replaces the modules and instances of a program without errors by their declarations. It stops early if there are too many nodes.
func (x *program) expanded() *builder {
	denoting := x.denoting()
	b := &builder{nodes: []api.Node{x.Nodes[0]}}
	for _, d := range x.declarations(0) {
		switch m := x.moduleOf(d); {
		case m != nil:
			x.addParameters(b, m, d)
			x.addMembers(b, m, x.Nodes[d].Str, denoting)
		case x.Nodes[d].Op != api.OpModule:
			b.add(x.Subtree(d))
		}
		if b.isFull() {
			break
		}
	}
	return b
}

// addParameters adds the functions of the parameters of an instance.
func (x *program) addParameters(b *builder, m *module, instance int) {
	n := x.Nodes[instance]
	for k, argument := range x.arguments(instance) {
		parameter := x.Nodes[m.parameters[k]].Str
		b.add(append([]api.Node{
			{Op: api.OpFun, Str: n.Str + separator + parameter, Kids: 2, Pos: n.Pos},
			{Op: api.OpParams},
		}, x.Subtree(argument)...))
	}
}

// addMembers adds the declarations of a module for an instance.
func (x *program) addMembers(b *builder, m *module, instance string, denoting []bool) {
	for _, d := range x.declarations(m.node) {
		first := len(b.nodes)
		b.add(x.Subtree(d))
		for i := d; i < x.Ends[d]; i++ {
			if denoting[i] {
				b.nodes[first+i-d].Str = instance + separator + x.Nodes[i].Str
			}
		}
	}
}
