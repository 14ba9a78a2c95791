package infer

import (
	"slices"

	"cspcheck/api"
	"cspcheck/preorder"
)

// program is a resolved program whose types are being inferred. After the first error, what else is found has no meaning.
type program struct {
	preorder.Tree
	solver
	symbols   []api.Symbol
	schemes   []scheme      // by symbol
	elements  map[int]*term // by Field of a Con and part of a Channel, the type of its elements
	sigs      map[int]int   // by symbol, the Sig that describes it
	open      []int         // the symbols of the nodes around the current one that are not quantified, apart from some whose types have no variables
	needs     []need        // those of the current group
	declaring bool          // whether the current node is in a Data, Nametype or Channel
	matching  bool          // whether the current node is in a pattern
	failure   api.Errno     // the first error
	failedAt  int           // its node
}

func newProgram(p []api.Node, s []api.Symbol) *program {
	x := &program{
		Tree:     preorder.New(p),
		symbols:  s,
		elements: map[int]*term{},
		sigs:     map[int]int{},
	}
	for k := range s {
		x.schemes = append(x.schemes, x.firstScheme(k))
	}
	for i, n := range p {
		switch n.Op {
		case api.OpSig:
			x.sigs[int(n.Int)] = i
		case api.OpCon:
			x.schemes[n.Int].typ = x.fullType(x.Kids(i), data(int(p[x.dataOf(i)].Int)))
		case api.OpChannel:
			x.addChannels(i)
		}
	}
	return x
}

// firstScheme returns the scheme of a symbol before the inference.
func (x *program) firstScheme(k int) scheme {
	switch x.symbols[k].Kind {
	case api.SymBuiltin:
		return x.builtin(x.symbols[k].Name)
	case api.SymData:
		return scheme{typ: set(data(k))}
	}
	return scheme{typ: x.fresh()}
}

// dataOf returns the Data of a Con.
func (x *program) dataOf(con int) int {
	i := con
	for x.Nodes[i].Op != api.OpData {
		i--
	}
	return i
}

// fullType returns the type of a constructor or channel with fields, whose elements get variables as their types.
func (x *program) fullType(fields []int, whole *term) *term {
	for _, f := range slices.Backward(fields) {
		if x.elements[f] == nil {
			x.elements[f] = x.fresh()
		}
		whole = extension(x.elements[f], whole)
	}
	return whole
}

func (x *program) addChannels(i int) {
	names, parts := x.channel(i)
	for _, name := range names {
		x.schemes[x.Nodes[name].Int].typ = x.fullType(parts, event())
	}
}

// channel returns the Names of a Channel and the parts of its Expr.
func (x *program) channel(i int) (names, parts []int) {
	names = x.Kids(i)
	if x.Nodes[i].Int == 0 {
		return names, nil
	}
	last := len(names) - 1
	part := names[last]
	for x.Nodes[part].Op == api.OpDot {
		kids := x.Kids(part)
		parts = append(parts, kids[1])
		part = kids[0]
	}
	parts = append(parts, part)
	slices.Reverse(parts)
	return names[:last], parts
}

// fail notes an error at a node, if it is the first one.
func (x *program) fail(i int, e api.Errno) {
	if x.failure == api.OK {
		x.failure, x.failedAt = e, i
	}
}

// require makes two types equal. An error is one at the node that requires it.
func (x *program) require(i int, a, b *term) {
	if x.failure != api.OK {
		return
	}
	if e := x.equate(a, b); e != api.OK {
		x.fail(i, e)
	}
}
