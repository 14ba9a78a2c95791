package finset

import (
	"iter"
	"slices"

	"cspcheck/api"
	"cspcheck/value"
)

func isSet(v api.Value) bool {
	return value.Kind(v) == api.ValSet
}

// isSetOfSets reports whether v is a set whose elements are sets.
func isSetOfSets(v api.Value) bool {
	for _, element := range value.Parts(v) {
		if !isSet(element) {
			return false
		}
	}
	return isSet(v)
}

func inEither(inA, inB bool) bool { return inA || inB }

func inBoth(inA, inB bool) bool { return inA && inB }

func inFirstOnly(inA, inB bool) bool { return inA && !inB }

// combined returns the set of the elements of a and b that keep selects by whether they are in a and in b.
func combined(a, b api.Value, keep func(inA, inB bool) bool) (api.Value, api.Errno) {
	if !isSet(a) || !isSet(b) {
		return "", api.ErrType
	}
	return collected(slices.Values(merge(value.Parts(a), value.Parts(b), keep)))
}

// merge returns the elements of two ascending lists that keep selects, ascending.
func merge(a, b []api.Value, keep func(inA, inB bool) bool) []api.Value {
	var kept []api.Value
	i, j := 0, 0
	// Sort checks each value once. Compare would check both of its arguments anew in each step, and a long element may be compared with thousands of others.
	for _, v := range value.Sort(slices.Concat(a, b)) {
		inA, inB := i < len(a) && a[i] == v, j < len(b) && b[j] == v
		if inA {
			i++
		}
		if inB {
			j++
		}
		if keep(inA, inB) {
			kept = append(kept, v)
		}
	}
	return kept
}

// collected returns the set of values that are all different, or ErrOverflow if there is no such set. It stops as soon as they are too many or too long, so that the rest of them need not be made.
func collected(values iter.Seq[api.Value]) (api.Value, api.Errno) {
	var l []api.Value
	length := 0
	for v := range values {
		l = append(l, v)
		length += len(v)
		if v == "" || len(l) > api.MaxSet || length > api.MaxValue {
			return "", api.ErrOverflow
		}
	}
	set := value.Set(l)
	if set == "" {
		return "", api.ErrOverflow
	}
	return set, api.OK
}

// subsets goes through the sets of some of the elements, of which there are fewer than a number has bits.
func subsets(elements []api.Value) iter.Seq[api.Value] {
	return func(yield func(api.Value) bool) {
		for mask := range 1 << len(elements) {
			var chosen []api.Value
			for i, v := range elements {
				if mask>>i&1 == 1 {
					chosen = append(chosen, v)
				}
			}
			if !yield(value.Set(chosen)) {
				return
			}
		}
	}
}

// choices goes through the sequences with one element of each factor; count is the product of the lengths of the factors.
func choices(factors [][]api.Value, count int) iter.Seq[api.Value] {
	return func(yield func(api.Value) bool) {
		chosen := make([]api.Value, len(factors))
		for number := range count {
			rest := number
			for i, factor := range slices.Backward(factors) {
				chosen[i] = factor[rest%len(factor)]
				rest /= len(factor)
			}
			if !yield(value.Seq(chosen)) {
				return
			}
		}
	}
}
