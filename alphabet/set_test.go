package alphabet_test

import (
	"fmt"
	"slices"
	"testing"

	"cspcheck/alphabet"
)

func TestSet(t *testing.T) {
	for _, row := range []struct{ l, want []int }{
		{nil, nil},
		{events(2), events(2)},
		{events(2, 3, 4), events(2, 3, 4)},
		{events(4, 3, 2), events(2, 3, 4)},
		{events(3, 2, 3, 3, 2), events(2, 3)},
		{events(7, 7, 7), events(7)},
		{events(last, first), events(first, last)},
		{events(9, 0, 10, 1, 9, -1, last+1), events(9, 10)},
		{notVisible(), nil},
		{append(notVisible(), 5, 3), events(3, 5)},
	} {
		wantSet(t, fmt.Sprintf("Set(%v)", row.l), alphabet.Set(row.l), row.want)
		wantBool(t, fmt.Sprintf("ValidSet(%v)", row.l), alphabet.ValidSet(row.l), slices.Equal(row.l, row.want))
	}
}

func TestValidSet(t *testing.T) {
	for _, l := range [][]int{nil, {}, {first}, {last}, {first, last}, {2, 3, 4}, {2, 10, 100, 1000}} {
		wantBool(t, fmt.Sprintf("ValidSet(%v)", l), alphabet.ValidSet(l), true)
	}
	for _, l := range [][]int{{3, 2}, {2, 2}, {2, 4, 3}, {2, 3, 3}, {3, 3, 4}, {2, 3, 4, 2}, {0, 2}, {1, 2}, {2, 3, last + 1}, {-1, 5}, {2, 1, 3}} {
		wantBool(t, fmt.Sprintf("ValidSet(%v)", l), alphabet.ValidSet(l), false)
	}
	for _, e := range notVisible() {
		for _, l := range [][]int{{e}, {e, 5}, {5, e}} {
			wantBool(t, fmt.Sprintf("ValidSet(%v)", l), alphabet.ValidSet(l), false)
		}
	}
}

func TestUnionInterDiff(t *testing.T) {
	for _, row := range []struct{ a, b, union, inter, diff []int }{
		{nil, nil, nil, nil, nil},
		{events(2), nil, events(2), nil, events(2)},
		{nil, events(2), events(2), nil, nil},
		{events(2, 3), events(2, 3), events(2, 3), events(2, 3), nil},
		{events(2, 3), events(4, 5), events(2, 3, 4, 5), nil, events(2, 3)},
		{events(4, 5), events(2, 3), events(2, 3, 4, 5), nil, events(4, 5)},
		{events(2, 4, 6), events(3, 5, 7), events(2, 3, 4, 5, 6, 7), nil, events(2, 4, 6)},
		{events(2, 3, 5), events(3, 4, 5, 6), events(2, 3, 4, 5, 6), events(3, 5), events(2)},
		{events(5, 3, 5, 2), events(6, 4, 5, 3, 3), events(2, 3, 4, 5, 6), events(3, 5), events(2)},
		{events(first, last), events(last, first), events(first, last), events(first, last), nil},
		{events(0, 1, 2, last+1), events(1, 3, last+1, -1), events(2, 3), nil, events(2)},
		{notVisible(), notVisible(), nil, nil, nil},
		{append(notVisible(), 9, 4), events(4), events(4, 9), events(4), events(9)},
		{events(4), append(notVisible(), 9, 4), events(4, 9), events(4), nil},
	} {
		args := fmt.Sprintf("(%v, %v)", row.a, row.b)
		wantSet(t, "Union"+args, alphabet.Union(row.a, row.b), row.union)
		wantSet(t, "Inter"+args, alphabet.Inter(row.a, row.b), row.inter)
		wantSet(t, "Diff"+args, alphabet.Diff(row.a, row.b), row.diff)
	}
}

func TestHas(t *testing.T) {
	l := append(notVisible(), 9, 4, 9)
	for _, e := range l {
		wantBool(t, fmt.Sprintf("Has(l, %d)", e), alphabet.Has(l, e), true)
		wantBool(t, fmt.Sprintf("Has(nil, %d)", e), alphabet.Has(nil, e), false)
	}
	for _, e := range events(2, 3, 5, last, -3) {
		wantBool(t, fmt.Sprintf("Has(l, %d)", e), alphabet.Has(l, e), false)
	}
	// The list need not be ascending.
	wantBool(t, "Has in a list that is not ascending", alphabet.Has(events(9, 2, 5), 2), true)
}
