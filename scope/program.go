package scope

import (
	"cspcheck/api"
	"cspcheck/preorder"
)

// program is an untimed program whose names are being resolved. Its node 0 stands for the block of the program.
type program struct {
	preorder.Tree
	symbols   []api.Symbol
	errors    []api.Errno            // by node
	constants map[string]bool        // the names of the constructors and channels
	types     map[string]int         // the numbers of types by their names
	builtins  map[string]int         // the builtins by their names
	scopes    map[int]map[string]int // by node, the symbols that a Program, Block, Fun, Lambda, Gen, Input or Some declares, by their names
	values    map[value]int          // the functions and the variables of blocks
	visible   []map[string]int       // the scopes that are visible at the current node, the innermost one last
}

// value is a name in a block.
type value struct {
	block int
	name  string
}

// newProgram returns a program whose nodes it will change.
func newProgram(p []api.Node) *program {
	x := &program{
		Tree:      preorder.New(p),
		symbols:   Builtins(),
		errors:    make([]api.Errno, len(p)),
		constants: map[string]bool{},
		types:     map[string]int{"Int": 0, "Bool": 0, "Event": 0, "Proc": 0},
		builtins:  map[string]int{},
		scopes:    map[int]map[string]int{},
		values:    map[value]int{},
	}
	for k, s := range x.symbols {
		x.builtins[s.Name] = k
	}
	x.findConstants()
	return x
}

func (x *program) findConstants() {
	for i, n := range x.Nodes {
		switch n.Op {
		case api.OpCon:
			x.constants[n.Str] = true
		case api.OpChannel:
			for _, name := range x.channels(i) {
				x.constants[x.Nodes[name].Str] = true
			}
		}
	}
}

// channels returns the Names of a Channel.
func (x *program) channels(i int) []int {
	kids := x.Kids(i)
	return kids[:len(kids)-int(x.Nodes[i].Int)]
}

// firstError returns the first error in the preorder of the nodes.
func (x *program) firstError() (api.Pos, api.Errno) {
	for i, e := range x.errors {
		if e != api.OK {
			return x.Nodes[i].Pos, e
		}
	}
	return api.Pos{}, api.OK
}
