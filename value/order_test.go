package value_test

import (
	"math"
	"slices"
	"testing"

	"cspcheck/api"
	"cspcheck/value"
)

func TestOrderOfKinds(t *testing.T) {
	wantAscending(t, of(
		value.Int(math.MaxInt64), value.Bool(false), value.Tuple(ints(0, 0)), value.Seq(ints(9)), value.Set(nil), value.Map(nil, nil),
		value.Dot(5, nil), value.Fun(0, nil), value.Proc(api.ProcStop, nil), value.Name(0)))
}

func TestOrderOfSimpleValues(t *testing.T) {
	wantAscending(t, ints(math.MinInt64, math.MinInt64+1, -257, -256, -255, -1, 0, 1, 255, 256, 257, math.MaxInt64-1, math.MaxInt64))
	wantAscending(t, of(value.Bool(false), value.Bool(true)))
	wantAscending(t, of(value.Name(0), value.Name(1), value.Name(255), value.Name(256), value.Name(65535)))
}

func TestOrderOfCompoundValues(t *testing.T) {
	wantAscending(t, of(value.Seq(nil), value.Seq(ints(-1)), value.Seq(ints(-1, 5)), value.Seq(ints(0)), value.Seq(ints(1)), value.Seq(ints(1, 0)), value.Seq(ints(1, 0, 0)), value.Seq(ints(1, 1)), value.Seq(ints(2)), value.Seq(of(value.Bool(false)))))
	wantAscending(t, of(value.Tuple(ints(0, 0, 0)), value.Tuple(ints(0, 1)), value.Tuple(ints(1, 0))))
	wantAscending(t, of(value.Set(nil), value.Set(ints(1, 2)), value.Set(ints(1, 2, 3)), value.Set(ints(1, 3)), value.Set(ints(2))))
	wantAscending(t, of(value.Map(nil, nil), value.Map(ints(1), ints(1)), value.Map(ints(1, 2), ints(1, 0)), value.Map(ints(1), ints(2)), value.Map(ints(2), ints(0))))
	wantAscending(t, of(value.Dot(0, nil), value.Dot(0, ints(7)), value.Dot(1, nil), value.Dot(1, ints(-1)), value.Dot(1, ints(0)), value.Dot(256, nil)))
	wantAscending(t, of(value.Fun(0, nil), value.Fun(0, ints(3)), value.Fun(0, ints(3, 3)), value.Fun(0, ints(4)), value.Fun(256, nil)))
	wantAscending(t, of(value.Proc(1, nil), value.Proc(2, nil), value.Proc(2, ints(0)), value.Proc(2, ints(1)), value.Proc(21, nil)))
}

func TestOrderOfNestedParts(t *testing.T) {
	// The first difference decides, however long the values are.
	wantAscending(t, of(
		value.Seq(of(value.Seq(nil), value.Int(9))),
		value.Seq(of(value.Seq(ints(1)), value.Int(0))),
		value.Seq(of(value.Seq(ints(1, 0)), value.Int(-1))),
		value.Seq(of(value.Seq(ints(1, 0)), value.Int(0))),
		value.Seq(of(value.Seq(ints(1, 1)), value.Int(-7))),
		value.Seq(of(value.Set(nil)))))
}

func TestOrderByManyParts(t *testing.T) {
	// The numbers of parts differ in the byte that is more significant.
	wantAscending(t, of(value.Seq(slices.Repeat(ints(1), 255)), value.Seq(slices.Repeat(ints(1), 256)), value.Seq(slices.Repeat(ints(1), 257)), value.Seq(ints(1, 2))))
}

func TestOrderOfOthers(t *testing.T) {
	wantAscending(t, of("", "\x00", "\x01", "\x02\x02", "\x04\x00\x01", "\x0b", "\xff", value.Int(math.MinInt64), value.Bool(false), value.Name(0)))
	wantAscending(t, of(value.Int(0)+"\x00", "\x01\x7f", "\x01\x80", value.Int(-1)+"\x00", "\x0a\x00", value.Int(0)))
}

func TestSort(t *testing.T) {
	for _, test := range []struct{ l, want list }{
		{nil, nil},
		{list{}, nil},
		{ints(1), ints(1)},
		{ints(3, -1, 3, 0, -1), ints(-1, 0, 3)},
		{ints(1, 1, 1), ints(1)},
		{of(value.Int(0), "\x02\x02", "", value.Int(-1), "", "\x02\x02"), of("", "\x02\x02", value.Int(-1), value.Int(0))},
		{of(value.Name(0), value.Seq(ints(1, 0)), value.Seq(ints(1)), value.Bool(true), value.Seq(ints(1))), of(value.Bool(true), value.Seq(ints(1)), value.Seq(ints(1, 0)), value.Name(0))},
	} {
		if got := value.Sort(test.l); !slices.Equal(got, test.want) {
			t.Errorf("Sort(%q) is %q, want %q", test.l, got, test.want)
		}
	}
}
