package core

import (
	"slices"

	"cspcheck/api"
	"cspcheck/infer"
	"cspcheck/preorder"
)

// program is a resolved program that is being lowered.
type program struct {
	preorder.Tree
	symbols   []api.Symbol
	types     []api.Scheme  // by symbol
	clauses   map[int][]int // by function, its Funs
	captured  map[int][]int // by lifted function of a Let, its captured symbols
	numbers   map[int]int   // by constructor, channel and datatype, its number in the core
	bySymbol  map[int]int   // by symbol that is a function of the core, its number
	byNode    map[int]int   // by Lambda and continuation of a Prefix that is a function of the core, its number
	functions []function    // those whose bodies have been searched for functions that are lifted
	queue     []function    // the others; the numbers go on from those of functions
	core      api.Core      // its names and assertions
}

// function is a function of the core whose body is not written yet.
type function struct {
	api.Func
	captured []int         // symbols, which are its first parameters
	roots    []int         // the expressions of the program that its body is made from
	write    func(*writer) // writes its body
}

func newProgram(p []api.Node, s []api.Symbol, types []api.Scheme) *program {
	x := &program{
		Tree:     preorder.New(p),
		symbols:  s,
		types:    types,
		clauses:  map[int][]int{},
		captured: map[int][]int{},
		numbers:  map[int]int{},
		bySymbol: map[int]int{},
		byNode:   map[int]int{},
	}
	for i, n := range p {
		if n.Op == api.OpFun {
			x.clauses[int(n.Int)] = append(x.clauses[int(n.Int)], i)
		}
	}
	return x
}

// isInferred reports whether Infer returns these types for a program and its symbols.
func isInferred(p []api.Node, s []api.Symbol, types []api.Scheme) bool {
	inferred, _, e := infer.Infer(p, s)
	return e == api.OK && slices.EqualFunc(types, inferred, sameScheme)
}

func sameScheme(a, b api.Scheme) bool {
	return a.Vars == b.Vars && slices.Equal(a.Needs, b.Needs) && slices.Equal(a.Type, b.Type)
}

// add adds a function to the queue and returns its number.
func (x *program) add(f function) int {
	f.Arity += len(f.captured)
	x.queue = append(x.queue, f)
	return len(x.functions) + len(x.queue) - 1
}

// isProcess reports whether a symbol that is a function, or a variable without parameters, denotes a process once it has its arguments.
func (x *program) isProcess(symbol int) bool {
	t := x.types[symbol].Type
	if x.symbols[symbol].Arity > 0 {
		t = resultOf(t)
	}
	return t[0].Kind == api.TypeProc
}

// resultOf returns the nodes from the result of a function type on.
func resultOf(t []api.TypeNode) []api.TypeNode {
	parameters := t[0].Kids - 1
	t = t[1:]
	for range parameters {
		for missing := 1; missing > 0; t = t[1:] {
			missing += t[0].Kids - 1
		}
	}
	return t
}

// isLifted reports whether a symbol is a function of a Let that becomes one of the core.
func (x *program) isLifted(symbol int) bool {
	s := x.symbols[symbol]
	if s.Kind != api.SymLocal || x.Nodes[s.Node].Op != api.OpFun {
		return false
	}
	return s.Arity > 0 || x.isProcess(symbol)
}

// isFunction reports whether a symbol is a function of the program or one that is lifted.
func (x *program) isFunction(symbol int) bool {
	return x.symbols[symbol].Kind == api.SymGlobal || x.isLifted(symbol)
}

// named returns the symbol of a Name, or false for another node.
func (x *program) named(i int) (int, bool) {
	n := x.Nodes[i]
	return int(n.Int), n.Op == api.OpName
}
