package value

import (
	"cmp"

	"cspcheck/api"
)

// compareValid compares two valid values.
func compareValid(a, b api.Value) int {
	if a == b {
		return 0
	}
	order, _ := compareFirst(a, b)
	return order
}

// compareFirst compares the values at the beginnings of a and b. If they are equal, it also returns their length.
func compareFirst(a, b api.Value) (order, length int) {
	kind := int(a[0])
	if order := cmp.Compare(a[0], b[0]); order != 0 {
		return order, 0
	}
	if simple(kind) {
		return cmp.Compare(number(a), number(b)), simpleLength(kind)
	}
	at := header
	for range min(count(a), count(b)) {
		// All parts before this one are equal, so that it begins at the same place in both.
		order, length := compareFirst(a[at:], b[at:])
		if order != 0 {
			return order, 0
		}
		at += length
	}
	return cmp.Compare(count(a), count(b)), at
}
