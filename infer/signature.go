package infer

import (
	"slices"

	"cspcheck/api"
	"cspcheck/types"
)

// signature is the type of a Sig with the classes of its variables, by variable.
type signature struct {
	typ     []api.TypeNode
	classes map[int]int
}

// signature returns what a Sig declares.
func (x *program) signature(i int) signature {
	kids := x.Kids(i)
	last := len(kids) - 1
	numbers := map[string]int{}
	s := signature{classes: map[int]int{}}
	for _, n := range x.Subtree(kids[last]) {
		s.typ = append(s.typ, typeNode(n, numbers))
	}
	for _, class := range kids[:last] {
		if v, ok := numbers[x.Nodes[class+1].Str]; ok {
			s.classes[v] |= classNamed(x.Nodes[class].Str)
		}
	}
	return s
}

// typeNode returns the node of a type that a node of a Sig stands for. A variable gets the next number if its name has none yet.
func typeNode(n api.Node, numbers map[string]int) api.TypeNode {
	t := api.TypeNode{Kids: n.Kids}
	switch n.Op {
	case api.OpTypeName:
		return namedType(n)
	case api.OpTypeVar:
		if _, ok := numbers[n.Str]; !ok {
			numbers[n.Str] = len(numbers)
		}
		t.Kind, t.Num = api.TypeVar, numbers[n.Str]
	case api.OpTypeSeq:
		t.Kind = api.TypeSeq
	case api.OpTypeSet:
		t.Kind = api.TypeSet
	case api.OpTypeMap:
		t.Kind = api.TypeMap
	case api.OpTypeTuple:
		t.Kind = api.TypeTuple
	case api.OpTypeFun:
		t.Kind = api.TypeFun
	case api.OpTypeDot:
		t.Kind = api.TypeDot
	case api.OpTypeExt:
		t.Kind = api.TypeExt
	}
	return t
}

func namedType(n api.Node) api.TypeNode {
	switch {
	case n.Int > 0:
		return api.TypeNode{Kind: api.TypeData, Num: int(n.Int)}
	case n.Str == "Int":
		return api.TypeNode{Kind: api.TypeInt}
	case n.Str == "Bool":
		return api.TypeNode{Kind: api.TypeBool}
	case n.Str == "Event":
		return api.TypeNode{Kind: api.TypeEvent}
	}
	return api.TypeNode{Kind: api.TypeProc}
}

func classNamed(name string) int {
	switch name {
	case "Eq":
		return api.ClassEq
	case "Ord":
		return api.ClassOrd
	}
	return api.ClassSet
}

// checkSigs checks the Sigs of the symbols of a group, in preorder, and gives these symbols the declared types. It adds the declared classes.
func (x *program) checkSigs(symbols []int, classes map[int]int) {
	var l []int
	for _, k := range symbols {
		if sig, ok := x.sigs[k]; ok {
			l = append(l, sig)
		}
	}
	slices.Sort(l)
	for _, sig := range l {
		s := x.signature(sig)
		k := int(x.Nodes[sig].Int)
		if e := x.compare(s, k, classes); e != api.OK {
			x.fail(sig, e)
			return
		}
		x.declare(k, s, classes)
	}
}

// compare checks that what a Sig declares of a symbol is an instance of what has been inferred.
func (x *program) compare(s signature, k int, classes map[int]int) api.Errno {
	if !types.Valid(s.typ) {
		return api.ErrFull
	}
	l, ok := types.Match(x.list(x.schemes[k].typ), s.typ)
	if !ok {
		return api.ErrType
	}
	fixed := x.fixed(k)
	if slices.ContainsFunc(l, func(b api.Binding) bool { return fixed[b.Var] }) {
		return api.ErrType // the variables of a Sig are types of their own, so no part of its type is that variable
	}
	for _, b := range l {
		needs, ok := types.Needs(b.Type, classes[b.Var])
		if !ok || slices.ContainsFunc(needs, func(n api.Need) bool { return n.Classes&^s.classes[n.Var] != 0 }) {
			return api.ErrClass
		}
	}
	return api.OK
}

// declare gives a symbol the type of its Sig, with fresh variables.
func (x *program) declare(k int, s signature, classes map[int]int) {
	by := map[int]*term{}
	for _, v := range types.Vars(s.typ) {
		by[v] = x.fresh()
		classes[by[v].node.Num] = s.classes[v]
	}
	t, _ := termOf(s.typ)
	x.schemes[k].typ = x.renamed(t, by)
}
