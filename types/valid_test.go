package types_test

import (
	"slices"
	"testing"

	"cspcheck/api"
	"cspcheck/types"
)

func wantValid(t *testing.T, want bool, l list) {
	t.Helper()
	before := slices.Clone(l)
	if got := types.Valid(l); got != want {
		t.Errorf("Valid(%v) = %v, want %v", l, got, want)
	}
	if !slices.Equal(l, before) {
		t.Errorf("Valid(%v) changed its argument", before)
	}
}

// P7.1: the numbers of children of each kind.
func TestNumbersOfChildren(t *testing.T) {
	permitted := map[int][]int{
		api.TypeVar:   {0},
		api.TypeInt:   {0},
		api.TypeBool:  {0},
		api.TypeEvent: {0},
		api.TypeProc:  {0},
		api.TypeData:  {0},
		api.TypeSeq:   {1},
		api.TypeSet:   {1},
		api.TypeMap:   {2},
		api.TypeTuple: {2, 3, 4, 5, 6, 7, 8},
		api.TypeFun:   {1, 2, 3, 4, 5, 6, 7, 8, 9},
		api.TypeDot:   {2},
		api.TypeExt:   {2},
	}
	for kind := -2; kind <= 20; kind++ {
		for n := range 12 {
			wantValid(t, slices.Contains(permitted[kind], n), with(kind, copies(n, integer())...))
		}
		wantValid(t, false, list{{Kind: kind, Kids: -1}})
		wantValid(t, false, list{{Kind: kind, Kids: -1}, {Kind: api.TypeInt}})
		wantValid(t, false, list{{Kind: kind, Kids: 1 << 62}, {Kind: api.TypeInt}})
	}
}

// P7.1: variables and datatypes have numbers from 0 to 2^30, all other nodes have 0.
func TestNumbersOfNodes(t *testing.T) {
	for kind := api.TypeVar; kind <= api.TypeExt; kind++ {
		least := 0
		switch kind {
		case api.TypeSeq, api.TypeSet, api.TypeFun:
			least = 1
		case api.TypeMap, api.TypeTuple, api.TypeDot, api.TypeExt:
			least = 2
		}
		numbered := kind == api.TypeVar || kind == api.TypeData
		for _, num := range []int{0, 1, -1, 7, maxNum, maxNum + 1, 1 << 62, -1 << 63} {
			x := with(kind, copies(least, boolean())...)
			x[0].Num = num
			want := num == 0 || numbered && num > 0 && num <= maxNum
			wantValid(t, want, x)
			wantValid(t, want, mapping(integer(), x))
		}
	}
}

// P7.1: a type is a single tree.
func TestTrees(t *testing.T) {
	for _, l := range invalid() {
		wantValid(t, false, l)
	}
	x := function(tuple(variable(3), sequence(integer()), set(data(4))), extension(dot(event(), boolean()), process()))
	wantValid(t, true, x)
	for i := range x {
		wantValid(t, false, x[:i])
	}
	wantValid(t, false, append(slices.Clone(x), integer()...))
	wantValid(t, false, append(slices.Clone(x), x...))
	wantValid(t, false, append(integer(), x...))
	wantValid(t, false, append(integer(), integer()...))
}

// P7.1: the limits of a type.
func TestLimitsOfTypes(t *testing.T) {
	wantValid(t, true, sized(api.MaxTypeNodes-1))
	wantValid(t, true, sized(api.MaxTypeNodes))
	wantValid(t, false, sized(api.MaxTypeNodes+1))
	wantValid(t, false, sized(1<<16))
	for _, leaf := range []list{integer(), variable(0), data(1)} {
		wantValid(t, true, nested(api.MaxNest-1, leaf))
		wantValid(t, false, nested(api.MaxNest, leaf))
		wantValid(t, true, tuple(integer(), nested(api.MaxNest-2, leaf)))
		wantValid(t, false, tuple(integer(), nested(api.MaxNest-1, leaf)))
		wantValid(t, false, tuple(nested(api.MaxNest-1, leaf), integer()))
	}
	wantValid(t, false, nested(1<<16, integer()))
	deep := nested(api.MaxNest-2, integer())
	wantValid(t, true, tuple(deep, sized(api.MaxTypeNodes-1-len(deep))))
	wantValid(t, false, tuple(deep, sized(api.MaxTypeNodes-len(deep))))
}

// P7.1: Equal compares any lists.
func TestEqual(t *testing.T) {
	lists := append(invalid(), integer(), boolean(), variable(0), variable(1), data(0), tuple(integer(), variable(1)), tuple(integer(), variable(2)), list{{Kind: api.TypeInt, Num: 1}}, list{{Kind: api.TypeInt, Kids: 1}})
	for i, a := range lists {
		for j, b := range lists {
			want := i == j || len(a) == 0 && len(b) == 0
			if got := types.Equal(a, slices.Clone(b)); got != want {
				t.Errorf("Equal(%v, %v) = %v", a, b, got)
			}
		}
		if longer := append(slices.Clone(a), integer()...); types.Equal(a, longer) || types.Equal(longer, a) {
			t.Errorf("%v equals a longer list", a)
		}
	}
}

func wantVars(t *testing.T, l list, want ...int) {
	t.Helper()
	before := slices.Clone(l)
	if got := types.Vars(l); !slices.Equal(got, want) {
		t.Errorf("Vars(%v) = %v, want %v", l, got, want)
	}
	if !slices.Equal(l, before) {
		t.Errorf("Vars(%v) changed its argument", before)
	}
}

// P7.1: the variables of a list, in the order of their first occurrence. The list may be no type.
func TestVars(t *testing.T) {
	wantVars(t, nil)
	wantVars(t, data(3))
	wantVars(t, list{{Kind: api.TypeInt, Num: 3}, {Kind: 0, Num: 4}})
	wantVars(t, variable(maxNum), maxNum)
	wantVars(t, function(variable(5), variable(2), variable(5), tuple(data(1), variable(2), variable(0))), 5, 2, 0)
	wantVars(t, slices.Concat(variable(4), variable(-1), variable(4), boolean(), variable(3), variable(-1)), 4, -1, 3)
	wantVars(t, list{{Kind: api.TypeVar, Num: 1, Kids: 9}}, 1)
	var l list
	var want []int
	for i := range 100000 {
		l = append(l, variable(i)...)
		want = append(want, i)
	}
	wantVars(t, append(l, l...), want...)
}
