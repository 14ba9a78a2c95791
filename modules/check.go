package modules

import (
	"strings"

	"cspcheck/api"
)

// firstError returns the first error of a valid program in the preorder of its nodes.
func (x *program) firstError() (api.Pos, api.Errno) {
	places := x.places()
	taken := map[string]bool{}
	for i, n := range x.Nodes {
		if !isPermitted(places[i], n.Op) {
			return n.Pos, api.ErrInvalid
		}
		if n.Op == api.OpModule || n.Op == api.OpInstance {
			if taken[n.Str] {
				return n.Pos, api.ErrDuplicate
			}
			taken[n.Str] = true
		}
		if e := x.errorAt(i); e != api.OK {
			return n.Pos, e
		}
	}
	return api.Pos{}, api.OK
}

// errorAt returns the error of a node on its own.
func (x *program) errorAt(i int) api.Errno {
	switch n := x.Nodes[i]; n.Op {
	case api.OpInstance:
		m := x.moduleOf(i)
		if m == nil {
			return api.ErrName
		}
		if len(m.parameters) != len(x.arguments(i)) {
			return api.ErrType
		}
	case api.OpModule:
		if x.modules[i].isDoubled {
			return api.ErrDuplicate
		}
	case api.OpName:
		if instance, name, isLong := strings.Cut(n.Str, separator); isLong && !x.exports(instance, name) {
			return api.ErrName
		}
	}
	return api.OK
}

// exports reports whether an instance with a name exports a member.
func (x *program) exports(instance, member string) bool {
	for _, m := range x.instances[instance] {
		if m.exported[member] {
			return true
		}
	}
	return false
}
