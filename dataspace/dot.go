package dataspace

import (
	"slices"

	"cspcheck/api"
	"cspcheck/value"
)

// A dot is a dotted value that belongs to a list, with the domains of the fields that it does not have yet.
type dot struct {
	name    int
	fields  []api.Value
	missing []api.Value
}

// read returns the dotted value v, ErrType if it is none, or ErrDomain if it does not belong to the list.
func read(l []api.Info, v api.Value, member membership) (dot, api.Errno) {
	if !isDot(v) {
		return dot{}, api.ErrType
	}
	parts := value.Parts(v)
	name, fields := int(value.Number(parts[0])), parts[1:]
	if name >= len(l) || len(fields) > len(l[name].Domains) {
		return dot{}, api.ErrDomain
	}
	domains := l[name].Domains
	for i, field := range fields {
		if !permits(domains[i], field, member) {
			return dot{}, api.ErrDomain
		}
	}
	return dot{name: name, fields: fields, missing: domains[len(fields):]}, api.OK
}

func isDot(v api.Value) bool {
	return value.Kind(v) == api.ValDot
}

func isSetOfDots(a api.Value) bool {
	for _, v := range value.Parts(a) {
		if !isDot(v) {
			return false
		}
	}
	return value.Kind(a) == api.ValSet
}

// bare returns the elements of the list with this Data, without fields.
func bare(l []api.Info, data int) []dot {
	var dots []dot
	for i, info := range l {
		if info.Data == data {
			dots = append(dots, dot{name: i, missing: info.Domains})
		}
	}
	return dots
}

// endless reports whether a field that the dotted value does not have yet has an unbounded domain.
func (d dot) endless() bool {
	return slices.Contains(d.missing, unbounded)
}

// with returns the dotted value with more fields, or the empty string if it is not valid.
func (d dot) with(fields []api.Value) api.Value {
	return value.Dot(d.name, slices.Concat(d.fields, fields))
}

// extends reports whether the dotted value is the other one with more fields.
func (d dot) extends(other dot) bool {
	n := len(other.fields)
	return d.name == other.name && len(d.fields) >= n && slices.Equal(d.fields[:n], other.fields)
}

// shortest returns those dotted values of an ascending list that extend no other one of it, so that no value completes two of them.
func shortest(dots []dot) []dot {
	var kept []dot
	for _, d := range dots {
		// In ascending order, the values that extend another one follow it directly.
		if len(kept) == 0 || !d.extends(kept[len(kept)-1]) {
			kept = append(kept, d)
		}
	}
	return kept
}
