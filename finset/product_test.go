package finset_test

import (
	"math"
	"slices"
	"testing"

	"cspcheck/api"
	"cspcheck/finset"
	"cspcheck/value"
)

func TestProduct(t *testing.T) {
	wantText(t, "of nothing", "{<>}")(finset.Product(nil))
	wantText(t, "of an empty list", "{<>}")(finset.Product(list{}))
	wantText(t, "of one set", "{<1>, <2>}")(finset.Product(of(set(2, 1))))
	wantText(t, "of two", "{<1, 3>, <1, 4>, <2, 3>, <2, 4>}")(finset.Product(of(set(1, 2), set(3, 4))))
	wantText(t, "of two in the other order", "{<3, 1>, <3, 2>, <4, 1>, <4, 2>}")(finset.Product(of(set(3, 4), set(1, 2))))
	wantText(t, "of a set with itself", "{<0, 0>, <0, 1>, <1, 0>, <1, 1>}")(finset.Product(of(set(0, 1), set(0, 1))))
	wantText(t, "of three", "{<1, {}, 5>, <1, {}, 6>, <1, {}, 7>, <true, {}, 5>, <true, {}, 6>, <true, {}, 7>}")(
		finset.Product(of(sets(n(1), value.Bool(true)), sets(set()), set(5, 6, 7))))
}

func TestProductWithTheEmptySet(t *testing.T) {
	many := value.Set(between(1, 100))
	long := sets(sized(api.MaxValue-3, true))
	deep := sets(nested(api.MaxValueNest-2, n(1)))
	for _, l := range []list{of(set()), of(set(), set(1)), of(set(1), set()), of(set(1, 2), set(), set(3)), of(many, many, set()), of(set(), many, many), of(long, long, set()), of(deep, set()), append(slices.Repeat(of(set(0, 1)), 200), set())} {
		wantText(t, "a product with the empty set", "{}")(finset.Product(l))
	}
}

func TestProductTakesEachElementOnce(t *testing.T) {
	v, err := finset.Product(of(value.Set(between(0, 9)), value.Set(between(0, 6)), value.Set(between(0, 3))))
	var want list
	for a := range int64(10) {
		for b := range int64(7) {
			for c := range int64(4) {
				want = append(want, seq(n(a), n(b), n(c)))
			}
		}
	}
	if got := value.Parts(v); err != api.OK || !slices.Equal(got, want) {
		t.Errorf("the product is %s", shown(v, err))
	}
}

func TestProductKeepsItsArgument(t *testing.T) {
	l := of(set(1, 2), set(3, 4))
	given := slices.Clone(l)
	finset.Product(l)
	if !slices.Equal(l, given) {
		t.Errorf("the list has become %q", l)
	}
}

func TestRange(t *testing.T) {
	wantText(t, "around 0", "{-2, -1, 0, 1}")(finset.Range(-2, 1))
	wantText(t, "of one integer", "{5}")(finset.Range(5, 5))
	wantText(t, "downwards", "{}")(finset.Range(2, 1))
	wantText(t, "far downwards", "{}")(finset.Range(math.MaxInt64, math.MinInt64))
	wantText(t, "downwards from 0", "{}")(finset.Range(0, math.MinInt64))
	wantText(t, "at the end", "{9223372036854775806, 9223372036854775807}")(finset.Range(math.MaxInt64-1, math.MaxInt64))
	wantText(t, "at the beginning", "{-9223372036854775808, -9223372036854775807}")(finset.Range(math.MinInt64, math.MinInt64+1))
	wantText(t, "of the last", "{9223372036854775807}")(finset.Range(math.MaxInt64, math.MaxInt64))
	wantText(t, "of the first", "{-9223372036854775808}")(finset.Range(math.MinInt64, math.MinInt64))
}

func TestLongRange(t *testing.T) {
	for _, a := range []int64{math.MinInt64, -5000, -2000, 0, 7, math.MaxInt64 - api.MaxSet + 1} {
		var want list
		for i := range int64(api.MaxSet) {
			want = append(want, n(a+i))
		}
		wantValue(t, "the longest range", value.Set(want))(finset.Range(a, a+(api.MaxSet-1)))
	}
	for _, a := range []int64{math.MinInt64, -5000, -2000, 0, 7, math.MaxInt64 - api.MaxSet} {
		wantError(t, "one integer more", api.ErrOverflow)(finset.Range(a, a+api.MaxSet))
	}
	for _, bounds := range [][2]int64{{math.MinInt64, math.MaxInt64}, {0, math.MaxInt64}, {math.MinInt64, 0}, {-1, math.MaxInt64}, {math.MinInt64, -1}, {0, 1 << 32}, {-1 << 62, 1 << 62}} {
		wantError(t, "a range that is far too long", api.ErrOverflow)(finset.Range(bounds[0], bounds[1]))
	}
}
