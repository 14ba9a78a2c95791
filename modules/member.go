package modules

import "cspcheck/api"

// kind tells what a member of a module is. No member has the kind 0.
type kind int

const (
	kindParameter kind = iota + 1
	kindFunction
	kindVariable
	kindData
	kindConstructor
	kindNametype
	kindChannel
)

type member struct {
	name string
	kind kind
}

// module is what a Module declares.
type module struct {
	node       int
	parameters []int
	constants  constants
	members    map[string]kind
	exported   map[string]bool
	isDoubled  bool // two members have the same name, and are not both functions
}

func newModule(t tree, i int, outer map[string]bool) *module {
	kids := t.Kids(i)
	m := &module{
		node:       i,
		parameters: t.Kids(kids[0]),
		constants:  constants{own: t.constantsIn(i), outer: outer},
		members:    map[string]kind{},
		exported:   map[string]bool{},
	}
	for _, k := range m.parameters {
		m.add(member{t.Nodes[k].Str, kindParameter})
	}
	for n, block := range t.blocks(i) {
		for _, d := range t.Kids(block) {
			for _, x := range t.declared(d, m.constants) {
				m.add(x)
				m.exported[x.name] = m.exported[x.name] || n == 1
			}
		}
	}
	return m
}

func (m *module) add(x member) {
	if old := m.members[x.name]; old != 0 && (old != kindFunction || x.kind != kindFunction) {
		m.isDoubled = true
	}
	m.members[x.name] = x.kind
}

// declared returns what a declaration declares for the module or program that has it.
func (t tree) declared(i int, c constants) []member {
	n := t.Nodes[i]
	switch n.Op {
	case api.OpFun:
		return []member{{n.Str, kindFunction}}
	case api.OpBind:
		return membersOf(kindVariable, distinct(t.variables(t.Kids(i)[0], c)))
	case api.OpData:
		return append([]member{{n.Str, kindData}}, membersOf(kindConstructor, t.names(t.Kids(i)))...)
	case api.OpNametype:
		return []member{{n.Str, kindNametype}}
	case api.OpChannel:
		names := t.Kids(i)
		return membersOf(kindChannel, t.names(names[:len(names)-int(n.Int)]))
	case api.OpTimed:
		var l []member
		for _, d := range t.declarations(i) {
			l = append(l, t.declared(d, c)...)
		}
		return l
	}
	return nil
}

func (t tree) names(nodes []int) []string {
	var l []string
	for _, i := range nodes {
		l = append(l, t.Nodes[i].Str)
	}
	return l
}

func membersOf(k kind, names []string) []member {
	var l []member
	for _, name := range names {
		l = append(l, member{name, k})
	}
	return l
}

// constantsIn returns the names of the constructors and channels that the declarations of a node declare.
func (t tree) constantsIn(i int) map[string]bool {
	set := map[string]bool{}
	for _, d := range t.declarations(i) {
		for _, x := range t.declared(d, constants{}) {
			if x.kind == kindConstructor || x.kind == kindChannel {
				set[x.name] = true
			}
		}
	}
	return set
}
