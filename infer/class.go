package infer

import (
	"cspcheck/api"
	"cspcheck/types"
)

// need is the requirement of a node that a type belongs to classes.
type need struct {
	node    int
	typ     *term
	classes int
}

func (x *program) need(i int, t *term, classes int) {
	x.needs = append(x.needs, need{i, t, classes})
}

// reduce replaces the needs of the current group by those of variables. Of several ones that are equal, the first one stays: it has the first error.
func (x *program) reduce() {
	if x.failure != api.OK {
		return
	}
	var reduced []need
	seen := map[api.Need]bool{}
	for _, n := range x.needs {
		l, ok := types.Needs(x.list(n.typ), n.classes)
		if !ok {
			x.fail(n.node, api.ErrClass)
			return
		}
		for _, v := range l {
			if !seen[v] {
				seen[v] = true
				reduced = append(reduced, need{n.node, variable(v.Var), v.Classes})
			}
		}
	}
	x.needs = reduced
}

// classes returns the classes that variables need, by variable, after the needs have been reduced.
func (x *program) classes() map[int]int {
	l := map[int]int{}
	for _, n := range x.needs {
		l[n.typ.node.Num] |= n.classes
	}
	return l
}

// dismiss reduces the needs of a declaration or assertion of the program, and drops what is left.
func (x *program) dismiss() {
	x.reduce()
	x.needs = nil
}
