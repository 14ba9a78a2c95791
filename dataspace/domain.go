package dataspace

import (
	"slices"

	"cspcheck/api"
	"cspcheck/finset"
	"cspcheck/value"
)

// A membership reports whether v is an element of a set.
type membership func(v, set api.Value) bool

func inSet(v, set api.Value) bool {
	is, _ := finset.Member(v, set)
	return is
}

// inSets returns a membership that takes each set apart only once, for many values.
func inSets() membership {
	tables := map[api.Value]map[api.Value]bool{}
	return func(v, set api.Value) bool {
		table, made := tables[set]
		if !made {
			table = map[api.Value]bool{}
			for _, element := range value.Parts(set) {
				table[element] = true
			}
			tables[set] = table
		}
		return table[v]
	}
}

// permits reports whether v belongs to the domain.
func permits(domain, v api.Value, member membership) bool {
	return domain == unbounded || member(v, domain)
}

// rows returns the lists with one element of each set, ascending, or false if there are more than most.
func rows(sets []api.Value, most int) ([][]api.Value, bool) {
	if slices.Contains(sets, value.Set(nil)) {
		return nil, true
	}
	all := [][]api.Value{nil}
	for _, set := range sets {
		elements := value.Parts(set)
		if len(all)*len(elements) > most {
			return nil, false
		}
		longer := make([][]api.Value, 0, len(all)*len(elements))
		for i := range all {
			for k := range elements {
				longer = append(longer, slices.Concat(all[i], elements[k:k+1]))
			}
		}
		all = longer
	}
	return all, true
}
