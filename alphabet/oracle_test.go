package alphabet_test

import (
	"cmp"
	"slices"

	"cspcheck/api"
)

// The functions of this file follow the sentences of the chapter literally, on tables of Go and by search.

func isVisible(e int) bool { return e >= api.First && e < api.First+api.MaxEvents }

// sorted returns the different elements of a table that belong to it, in the order of less.
func sorted[T comparable](table map[T]bool, compare func(a, b T) int) []T {
	var l []T
	for v, in := range table {
		if in {
			l = append(l, v)
		}
	}
	slices.SortFunc(l, compare)
	return l
}

func byNumber(a, b int) int { return cmp.Compare(a, b) }

func byFrom(p, q api.Pair) int {
	if p.From != q.From {
		return cmp.Compare(p.From, q.From)
	}
	return cmp.Compare(p.To, q.To)
}

func byLow(p, q api.Above) int {
	if p.Low != q.Low {
		return cmp.Compare(p.Low, q.Low)
	}
	return cmp.Compare(p.High, q.High)
}

// members returns the visible events of a list.
func members(l []int) map[int]bool {
	table := map[int]bool{}
	for _, e := range l {
		if isVisible(e) {
			table[e] = true
		}
	}
	return table
}

// chosen returns the visible events of two lists that belong to the result of an operation.
func chosen(a, b []int, belongs func(inA, inB bool) bool) []int {
	inA, inB := members(a), members(b)
	table := map[int]bool{}
	for e := range members(slices.Concat(a, b)) {
		table[e] = belongs(inA[e], inB[e])
	}
	return sorted(table, byNumber)
}

// counted returns the pairs of visible events of a list.
func counted(l []api.Pair) map[api.Pair]bool {
	table := map[api.Pair]bool{}
	for _, p := range l {
		if isVisible(p.From) && isVisible(p.To) {
			table[p] = true
		}
	}
	return table
}

func imageOf(l []api.Pair, e int) []int {
	table := map[int]bool{}
	for p := range counted(l) {
		if p.From == e {
			table[p.To] = true
		}
	}
	if len(table) == 0 {
		table[e] = true
	}
	return sorted(table, byNumber)
}

func composed(a, b []api.Pair) []api.Pair {
	table, replaced := map[api.Pair]bool{}, map[int]bool{}
	for p := range counted(a) {
		replaced[p.From] = true
		for _, to := range imageOf(b, p.To) {
			table[api.Pair{From: p.From, To: to}] = true
		}
	}
	for p := range counted(b) {
		if !replaced[p.From] {
			table[p] = true
		}
	}
	return sorted(table, byFrom)
}

func inverse(l []api.Pair) []api.Pair {
	table := map[api.Pair]bool{}
	for p := range counted(l) {
		table[api.Pair{From: p.To, To: p.From}] = true
	}
	return sorted(table, byFrom)
}

// closed adds pairs until nothing is missing, and then reports the first error.
func closed(l []api.Above) ([]api.Above, api.Errno) {
	table := map[api.Above]bool{}
	for _, p := range l {
		if !isVisible(p.Low) || !isVisible(p.High) {
			return nil, api.ErrInvalid
		}
		table[p] = true
	}
	for size := -1; size != len(table); {
		size = len(table)
		all := sorted(table, byLow)
		for _, p := range all {
			for _, q := range all {
				if p.High == q.Low {
					table[api.Above{Low: p.Low, High: q.High}] = true
				}
			}
		}
	}
	for p := range table {
		if p.Low == p.High {
			return nil, api.ErrLoop
		}
	}
	return sorted(table, byLow), api.OK
}

func isOrder(l []api.Above) bool {
	for i, p := range l {
		if !isVisible(p.Low) || !isVisible(p.High) || p.Low == p.High || i > 0 && byLow(l[i-1], p) >= 0 {
			return false
		}
		for _, q := range l {
			if p.High == q.Low && !slices.Contains(l, api.Above{Low: p.Low, High: q.High}) {
				return false
			}
		}
	}
	return true
}

func keptOf(l []api.Above, from []int) []int {
	if !isOrder(l) {
		return from
	}
	priority := func(over, e int) bool {
		greater := func(p api.Above) bool { return p.Low == e && (p.High == over || over == api.Tau || over == api.Tick) }
		return slices.ContainsFunc(l, greater)
	}
	var kept []int
	for _, e := range from {
		if !slices.ContainsFunc(from, func(other int) bool { return priority(other, e) }) {
			kept = append(kept, e)
		}
	}
	return kept
}
