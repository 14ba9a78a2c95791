package alphabet

import (
	"cmp"
	"slices"
)

// ValidSet reports whether l is an event set: visible events, ascending.
func ValidSet(l []int) bool {
	for _, e := range l {
		if !visible(e) {
			return false
		}
	}
	return ascending(l, cmp.Compare)
}

// Set returns the visible events of l, ascending.
func Set(l []int) []int {
	var set []int
	for _, e := range l {
		if visible(e) {
			set = append(set, e)
		}
	}
	slices.Sort(set)
	return slices.Compact(set)
}

// Union returns the visible events of a or b, ascending.
func Union(a, b []int) []int {
	return merge(a, b, func(inA, inB bool) bool { return inA || inB })
}

// Inter returns the visible events of both a and b, ascending.
func Inter(a, b []int) []int {
	return merge(a, b, func(inA, inB bool) bool { return inA && inB })
}

// Diff returns the visible events of a that are not in b, ascending.
func Diff(a, b []int) []int {
	return merge(a, b, func(inA, inB bool) bool { return inA && !inB })
}

// Has reports whether the list l contains the number e.
func Has(l []int, e int) bool {
	return slices.Contains(l, e)
}

// merge returns the visible events of two lists that keep selects by whether they are in a and in b, ascending.
func merge(a, b []int, keep func(inA, inB bool) bool) []int {
	a, b = Set(a), Set(b)
	var kept []int
	for i, j := 0, 0; i < len(a) || j < len(b); {
		inA := j == len(b) || i < len(a) && a[i] <= b[j]
		inB := i == len(a) || j < len(b) && b[j] <= a[i]
		e := 0
		if inA {
			e = a[i]
			i++
		}
		if inB {
			e = b[j]
			j++
		}
		if keep(inA, inB) {
			kept = append(kept, e)
		}
	}
	return kept
}
