package core

import (
	"slices"

	"cspcheck/scope"
)

// findCaptured finds the captured symbols of the functions of Lets that are lifted. One captures what is free in it, and what a function captures whose name occurs in it, unless it declares this itself.
func (x *program) findCaptured() {
	first := map[int][]int{} // by symbol, the functions in which it is free
	users := map[int][]int{} // by function, those in which its name occurs
	for k := range x.symbols {
		if !x.isLifted(k) {
			continue
		}
		for _, clause := range x.clauses[k] {
			for _, free := range x.freeVariables(clause) {
				first[free] = append(first[free], k)
			}
			for _, used := range x.liftedIn(clause) {
				users[used] = append(users[used], k)
			}
		}
	}
	for variable := range x.symbols {
		for k := range x.reached(variable, first[variable], users) {
			x.captured[k] = append(x.captured[k], variable)
		}
	}
}

// reached returns the functions that capture a variable: the first ones and, in turn, the users of such a function that do not declare the variable.
func (x *program) reached(variable int, first []int, users map[int][]int) map[int]bool {
	reached := map[int]bool{}
	for open := slices.Clone(first); len(open) > 0; {
		k := open[len(open)-1]
		open = open[:len(open)-1]
		if reached[k] || x.declares(x.clauses[k], variable) {
			continue
		}
		reached[k] = true
		open = append(open, users[k]...)
	}
	return reached
}

// capturedBy returns the captured symbols of a Lambda or the continuation of a Prefix.
func (x *program) capturedBy(i int) []int {
	l := x.freeVariables(i)
	for _, k := range x.liftedIn(i) {
		l = append(l, x.captured[k]...)
	}
	l = slices.DeleteFunc(l, func(k int) bool { return x.declares([]int{i}, k) })
	slices.Sort(l)
	return slices.Compact(l)
}

// freeVariables returns the variables, and the functions that are not lifted, that are free in a subtree.
func (x *program) freeVariables(i int) []int {
	return slices.DeleteFunc(scope.Free(x.Nodes, x.symbols, i), x.isLifted)
}

// liftedIn returns the lifted functions whose names occur in a subtree.
func (x *program) liftedIn(i int) []int {
	var l []int
	for node := i; node < x.Ends[i]; node++ {
		if k, ok := x.named(node); ok && x.isLifted(k) {
			l = append(l, k)
		}
	}
	return l
}

// declares reports whether the node that declares a symbol lies in one of some subtrees.
func (x *program) declares(subtrees []int, symbol int) bool {
	node := x.symbols[symbol].Node
	return slices.ContainsFunc(subtrees, func(i int) bool { return i <= node && node < x.Ends[i] })
}
