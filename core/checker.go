package core

import (
	"cspcheck/api"
	"cspcheck/pattern"
	"cspcheck/preorder"
)

// checker checks the bodies of the functions of a core.
type checker struct {
	preorder.Code // of the current function
	core          api.Core
	datatypes     map[int64]bool // the numbers of its datatypes
	slots         int            // the number of slots that have been added on the way to the current node
}

// function reports whether the body of a function is valid.
func (x *checker) function(f api.Func) bool {
	t, ok := treeOf(f)
	if !ok {
		return false
	}
	x.Code, x.slots = t, f.Arity
	if t.Nodes[0].Op == api.CodeClause {
		return t.Nodes[0].Int == 0 && x.clauses(f.Arity)
	}
	return x.expression(0)
}

// clauses reports whether the children of the root are clauses for the last parameters of a function.
func (x *checker) clauses(arity int) bool {
	tuples := x.Kids(0)
	if len(tuples) == 0 {
		return false
	}
	patterns := x.Nodes[tuples[0]].Kids - 1
	if patterns < 1 || patterns > arity {
		return false
	}
	for _, i := range tuples {
		if x.Nodes[i] != (api.Code{Op: api.CodeTuple, Kids: patterns + 1}) || !x.inside(i, x.clause) {
			return false
		}
	}
	return true
}

func (x *checker) clause(i int) bool {
	kids := x.Kids(i)
	last := len(kids) - 1
	for _, p := range kids[:last] {
		if !x.pattern(p) {
			return false
		}
	}
	return x.expression(kids[last])
}

// inside returns what f reports of a node. The slots that f adds are not known behind it.
func (x *checker) inside(i int, f func(int) bool) bool {
	outside := x.slots
	ok := f(i)
	x.slots = outside
	return ok
}

// expression reports whether a node is an expression.
func (x *checker) expression(i int) bool {
	return x.permits(x.Nodes[i]) && x.inside(i, x.parts)
}

func (x *checker) expressions(l []int) bool {
	for _, i := range l {
		if !x.expression(i) {
			return false
		}
	}
	return true
}

// pattern reports whether a node is a pattern, and adds its slots.
func (x *checker) pattern(i int) bool {
	p := x.Subtree(i)
	x.slots += pattern.Vars(p)
	return pattern.Valid(p, x.core.Names)
}

// parts reports whether the children of an expression, whose number is permitted, have the right form.
func (x *checker) parts(i int) bool {
	n := x.Nodes[i]
	kids := x.Kids(i)
	switch n.Op {
	case api.CodeLet:
		x.slots += int(n.Int)
	case api.CodeSelect:
		return x.expression(kids[0]) && x.pattern(kids[1]) && x.expression(kids[2])
	case api.CodeComp:
		return x.generators(kids, 1)
	case api.CodePrefix:
		return x.prefix(kids)
	case api.CodeRename:
		return x.expression(kids[0]) && x.arePairs(x.afterGenerators(kids[1:]))
	case api.CodeLink:
		last := len(kids) - 1
		return x.expression(kids[0]) && x.arePairs(kids[1:last]) && x.expression(kids[last])
	case api.CodeRepeat:
		switch n.Int {
		case api.ProcSync, api.ProcParallel:
			return x.expression(kids[0]) && x.generators(kids[1:], 1)
		case api.ProcAlpha:
			return x.generators(kids, 2)
		}
		return x.generators(kids, 1)
	}
	return x.expressions(kids)
}

// generators reports whether nodes are one or more generators and conditions, and then a number of expressions.
func (x *checker) generators(l []int, expressions int) bool {
	rest := x.afterGenerators(l)
	return len(rest) < len(l) && len(rest) == expressions && x.expressions(rest)
}

// afterGenerators returns what follows the generators and conditions at the beginning of a list.
func (x *checker) afterGenerators(l []int) []int {
	for len(l) > 0 && x.generator(l[0]) {
		l = l[1:]
	}
	return l
}

// generator reports whether a node is a generator or condition, and adds its slots.
func (x *checker) generator(i int) bool {
	kids := x.Kids(i)
	switch x.Nodes[i] {
	case api.Code{Op: api.CodeGen, Kids: 2}:
		return x.expression(kids[1]) && x.pattern(kids[0])
	case api.Code{Op: api.CodeCond, Kids: 1}:
		return x.expression(kids[0])
	}
	return false
}

// arePairs reports whether nodes are one or more pairs.
func (x *checker) arePairs(l []int) bool {
	for _, i := range l {
		if x.Nodes[i] != (api.Code{Op: api.CodePair, Kids: 2}) || !x.expressions(x.Kids(i)) {
			return false
		}
	}
	return len(l) > 0
}

// prefix reports whether the children of a prefix are an event, fields, and a continuation.
func (x *checker) prefix(kids []int) bool {
	last := len(kids) - 1
	if !x.expression(kids[0]) {
		return false
	}
	for _, i := range kids[1:last] {
		if !x.field(i) {
			return false
		}
	}
	return x.expression(kids[last])
}

// field reports whether a node is a field of a prefix, and adds its slots.
func (x *checker) field(i int) bool {
	n := x.Nodes[i]
	kids := x.Kids(i)
	if n.Int != 0 || len(kids) == 0 {
		return false
	}
	switch n.Op {
	case api.CodeOut:
		return len(kids) == 1 && x.expression(kids[0])
	case api.CodeIn, api.CodeSome:
		return len(kids) <= 2 && x.expressions(kids[1:]) && x.pattern(kids[0])
	}
	return false
}
