package types_test

import (
	"slices"
	"testing"

	"cspcheck/api"
	"cspcheck/types"
)

func TestUnifyExamples(t *testing.T) {
	pair := tuple(integer(), variable(1))
	wantUnify(t, sequence(variable(0)), sequence(pair), binding{Var: 0, Type: pair})
	wantError(t, variable(0), sequence(variable(0)), api.ErrInfinite)
}

// P7.3: equal types need no replacement, and types of different kinds have no unifier.
func TestUnifyOfKinds(t *testing.T) {
	kinds := []list{
		integer(), boolean(), event(), process(), data(0), data(1), data(maxNum),
		sequence(integer()), set(integer()),
		mapping(integer(), integer()), dot(integer(), integer()), extension(integer(), integer()),
		tuple(integer(), integer()), tuple(integer(), integer(), integer()),
		function(integer()), function(integer(), integer()), function(integer(), integer(), integer()),
	}
	for i, a := range kinds {
		for j, b := range kinds {
			if i == j {
				wantUnify(t, a, slices.Clone(b))
				wantUnify(t, a, a)
				continue
			}
			wantError(t, a, b, api.ErrType)
			wantError(t, tuple(variable(0), a), tuple(integer(), b), api.ErrType)
		}
		wantUnify(t, variable(3), a, binding{Var: 3, Type: a})
		wantUnify(t, set(a), set(variable(maxNum)), binding{Var: maxNum, Type: a})
	}
}

// P7.3: a variable is replaced by the type at its place, in each position.
func TestUnifyOfParts(t *testing.T) {
	for _, kind := range []int{api.TypeMap, api.TypeDot, api.TypeExt, api.TypeTuple, api.TypeFun} {
		wantUnify(t, with(kind, variable(4), integer()), with(kind, boolean(), variable(2)), binding{Var: 2, Type: integer()}, binding{Var: 4, Type: boolean()})
		wantError(t, with(kind, integer(), variable(0)), with(kind, boolean(), variable(0)), api.ErrType)
		wantError(t, with(kind, variable(0), integer()), with(kind, variable(0), boolean()), api.ErrType)
	}
	wantUnify(t, function(variable(0), variable(1), variable(2)), function(integer(), boolean(), event()), binding{Var: 0, Type: integer()}, binding{Var: 1, Type: boolean()}, binding{Var: 2, Type: event()})
}

// P7.3: of a class of equal variables all but the smallest are replaced.
func TestUnifyOfVariables(t *testing.T) {
	wantUnify(t, variable(3), variable(3))
	wantUnify(t, variable(3), variable(8), binding{Var: 8, Type: variable(3)})
	wantUnify(t, variable(0), variable(maxNum), binding{Var: maxNum, Type: variable(0)})
	for _, order := range [][]int{{1, 2, 3}, {1, 3, 2}, {2, 1, 3}, {2, 3, 1}, {3, 1, 2}, {3, 2, 1}} {
		a, b, c := variable(order[0]), variable(order[1]), variable(order[2])
		wantUnify(t, tuple(a, b), tuple(b, c), binding{Var: 2, Type: variable(1)}, binding{Var: 3, Type: variable(1)})
		wantUnify(t, tuple(a, b, c), tuple(b, c, a), binding{Var: 2, Type: variable(1)}, binding{Var: 3, Type: variable(1)})
		wantUnify(t, tuple(a, b, c), tuple(b, c, sequence(data(2))), binding{Var: 1, Type: sequence(data(2))}, binding{Var: 2, Type: sequence(data(2))}, binding{Var: 3, Type: sequence(data(2))})
		want := append(bind(order[0], sequence(integer())), binding{Var: max(order[1], order[2]), Type: variable(min(order[1], order[2]))})
		slices.SortFunc(want, func(x, y binding) int { return x.Var - y.Var })
		wantUnify(t, tuple(a, b, c), tuple(sequence(integer()), c, b), want...)
	}
	wantUnify(t, tuple(variable(5), variable(4), variable(5)), tuple(variable(6), variable(3), variable(4)), binding{Var: 4, Type: variable(3)}, binding{Var: 5, Type: variable(3)}, binding{Var: 6, Type: variable(3)})
	wantUnify(t, tuple(sequence(variable(2)), variable(1)), tuple(variable(0), variable(2)), binding{Var: 0, Type: sequence(variable(1))}, binding{Var: 2, Type: variable(1)})
}

// P7.3: replacements hold from then on, and in the types of earlier ones.
func TestUnifyWithReplacements(t *testing.T) {
	wantUnify(t, tuple(variable(0), variable(1), variable(2)), tuple(sequence(variable(1)), set(variable(2)), integer()), binding{Var: 0, Type: sequence(set(integer()))}, binding{Var: 1, Type: set(integer())}, binding{Var: 2, Type: integer()})
	wantUnify(t, tuple(variable(0), variable(0)), tuple(sequence(variable(1)), sequence(integer())), binding{Var: 0, Type: sequence(integer())}, binding{Var: 1, Type: integer()})
	wantUnify(t, tuple(variable(0), variable(0)), tuple(tuple(variable(1), integer()), tuple(boolean(), variable(2))), binding{Var: 0, Type: tuple(boolean(), integer())}, binding{Var: 1, Type: boolean()}, binding{Var: 2, Type: integer()})
	wantUnify(t, tuple(variable(0), variable(1), variable(0)), tuple(sequence(variable(2)), sequence(variable(3)), variable(1)), binding{Var: 0, Type: sequence(variable(2))}, binding{Var: 1, Type: sequence(variable(2))}, binding{Var: 3, Type: variable(2)})
	wantError(t, tuple(variable(0), variable(0)), tuple(integer(), boolean()), api.ErrType)
	wantError(t, tuple(variable(0), variable(1), variable(0)), tuple(sequence(integer()), sequence(boolean()), variable(1)), api.ErrType)
	wantError(t, tuple(variable(0), variable(1), variable(0)), tuple(sequence(variable(2)), tuple(variable(3), variable(3)), variable(1)), api.ErrType)
}

// P7.3: a type would contain itself.
func TestInfiniteTypes(t *testing.T) {
	for _, x := range []list{sequence(variable(7)), set(variable(7)), mapping(integer(), variable(7)), mapping(variable(7), integer()), tuple(integer(), integer(), variable(7)), function(variable(7)), function(variable(7), integer()), dot(variable(7), integer()), dot(integer(), variable(7)), extension(variable(7), event()), nested(40, variable(7))} {
		wantError(t, variable(7), x, api.ErrInfinite)
		wantError(t, sequence(variable(7)), sequence(x), api.ErrInfinite)
		wantUnify(t, variable(6), x, binding{Var: 6, Type: x})
	}
	wantError(t, tuple(variable(0), variable(1)), tuple(sequence(variable(1)), sequence(variable(0))), api.ErrInfinite)
	wantError(t, tuple(variable(0), variable(1), variable(2)), tuple(sequence(variable(1)), sequence(variable(2)), sequence(variable(0))), api.ErrInfinite)
	wantError(t, tuple(variable(0), variable(0)), tuple(variable(1), sequence(variable(1))), api.ErrInfinite)
	wantError(t, tuple(variable(0), variable(0)), tuple(sequence(variable(1)), variable(1)), api.ErrInfinite)
	wantError(t, tuple(variable(0), variable(0)), tuple(sequence(variable(1)), sequence(sequence(variable(1)))), api.ErrInfinite)
	wantUnify(t, tuple(variable(0), sequence(variable(0))), tuple(variable(1), sequence(variable(1))), binding{Var: 1, Type: variable(0)})
}

// P7.3: the first error in preorder, from left to right, is returned.
func TestFirstErrorOfUnify(t *testing.T) {
	wrongA, wrongB := integer(), boolean()
	infiniteA, infiniteB := variable(0), sequence(variable(0))
	wantError(t, tuple(wrongA, infiniteA), tuple(wrongB, infiniteB), api.ErrType)
	wantError(t, tuple(infiniteA, wrongA), tuple(infiniteB, wrongB), api.ErrInfinite)
	wantError(t, tuple(sequence(infiniteA), wrongA), tuple(sequence(infiniteB), wrongB), api.ErrInfinite)
	wantError(t, sequence(infiniteA), set(infiniteB), api.ErrType)
	wantError(t, tuple(infiniteA, integer()), tuple(infiniteB, integer(), integer()), api.ErrType)
	wantError(t, tuple(variable(1), tuple(variable(1), infiniteA)), tuple(wrongA, tuple(wrongB, infiniteB)), api.ErrType)
	wantError(t, tuple(variable(1), variable(1), infiniteA), tuple(tuple(integer(), wrongA), tuple(integer(), wrongB), infiniteB), api.ErrType)
	wantError(t, tuple(variable(1), tuple(infiniteA, variable(1))), tuple(wrongA, tuple(infiniteB, wrongB)), api.ErrInfinite)
}

// P7.3: an invalid argument comes before all other errors.
func TestUnifyOfInvalidTypes(t *testing.T) {
	for _, x := range invalid() {
		for _, y := range []list{variable(0), integer(), sequence(variable(0)), sized(api.MaxTypeNodes)} {
			wantError(t, x, y, api.ErrInvalid)
		}
		wantError(t, x, x, api.ErrInvalid)
		wantError(t, tuple(integer(), x), tuple(boolean(), integer()), api.ErrInvalid)
	}
}

// P7.3: the unified type is valid or ErrFull.
func TestUnifyLimits(t *testing.T) {
	half, smaller := sized(api.MaxTypeNodes/2), sized(api.MaxTypeNodes/2-1)
	pair := tuple(variable(0), variable(1))
	wantUnify(t, pair, tuple(half, smaller), binding{Var: 0, Type: half}, binding{Var: 1, Type: smaller})
	wantUnify(t, variable(0), sized(api.MaxTypeNodes), binding{Var: 0, Type: sized(api.MaxTypeNodes)})
	three := tuple(variable(0), variable(0))
	wantUnify(t, tuple(three, integer()), tuple(tuple(sized(254), variable(0)), integer()), binding{Var: 0, Type: sized(254)})
	wantUnify(t, three, tuple(sized(255), variable(0)), binding{Var: 0, Type: sized(255)})
	wantError(t, three, tuple(sized(256), variable(0)), api.ErrFull)
	wantUnify(t, sequence(three), sequence(tuple(sized(255), variable(0))), binding{Var: 0, Type: sized(255)})
	wantError(t, set(sequence(three)), set(sequence(tuple(sized(255), variable(0)))), api.ErrFull)

	deep := nested(api.MaxNest/2, integer())
	outer := nested(api.MaxNest/2-2, variable(0))
	wantUnify(t, tuple(variable(0), variable(1)), tuple(deep, outer), binding{Var: 0, Type: deep}, binding{Var: 1, Type: nested(api.MaxNest-2, integer())})
	wantError(t, tuple(variable(0), variable(1)), tuple(deep, sequence(outer)), api.ErrFull)
	wantError(t, tuple(variable(1), variable(0)), tuple(sequence(outer), deep), api.ErrFull)
	wantError(t, tuple(variable(0), sequence(outer)), tuple(deep, variable(1)), api.ErrFull)
}

// doubling returns two types that make each of n variables from first on the pair of the next one with itself.
func doubling(first, n int) (a, b []list) {
	for v := first; v < first+n; v++ {
		a = append(a, variable(v))
		b = append(b, tuple(variable(v+1), variable(v+1)))
	}
	return a, b
}

// P7.3: ErrFull comes after all other errors, also of types with more nodes than could ever be visited.
func TestUnifyOfHugeTypes(t *testing.T) {
	const n = 60
	a, b := doubling(0, n)
	a2, b2 := doubling(100, n)
	for range 2 {
		wantError(t, grouped(a), grouped(b), api.ErrFull)
		for _, test := range []struct {
			a, b list
			want api.Errno
		}{
			{integer(), integer(), api.ErrFull},
			{integer(), boolean(), api.ErrType},
			{variable(n), sequence(variable(0)), api.ErrInfinite},
			{variable(n), tuple(integer(), variable(n/2)), api.ErrInfinite},
			{variable(0), integer(), api.ErrType},
			{variable(0), variable(100), api.ErrFull},
			{variable(0), tuple(variable(101), variable(101)), api.ErrFull},
			{variable(0), variable(101), api.ErrFull},
			{tuple(variable(0), integer()), tuple(variable(100), boolean()), api.ErrType},
			{tuple(variable(0), variable(n)), tuple(variable(100), sequence(variable(100))), api.ErrInfinite},
			{tuple(variable(0), variable(n), variable(100+n)), tuple(variable(100), integer(), boolean()), api.ErrType},
			{tuple(variable(n), variable(100+n), variable(0)), tuple(integer(), boolean(), variable(100)), api.ErrType},
			{tuple(variable(n), variable(100+n), variable(0)), tuple(integer(), integer(), variable(100)), api.ErrFull},
			{tuple(variable(100), variable(0)), tuple(variable(1), variable(100)), api.ErrInfinite},
		} {
			x := grouped(slices.Concat(a, a2))
			y := grouped(slices.Concat(b, b2))
			wantError(t, tuple(x, test.a), tuple(y, test.b), test.want)
		}
		slices.Reverse(a)
		slices.Reverse(b)
		slices.Reverse(a2)
		slices.Reverse(b2)
	}
}

// P7.3: two types that have been made equal may meet again, as parts of others.
func TestUnifyOfNestedPairs(t *testing.T) {
	x, y := integer(), variable(0)
	for v := 1; v < 25; v++ {
		x, y = tuple(variable(v), x), tuple(y, variable(v))
	}
	wantError(t, tuple(x, sequence(y)), tuple(y, sequence(x)), api.ErrFull)
}

// P7.3: many variables in a row.
func TestUnifyOfLongChains(t *testing.T) {
	const n = 300
	var up, down []list
	var all []binding
	for v := range n {
		up = append(up, variable(v))
		down = append(down, variable(v+1))
		all = append(all, binding{Var: v + 1, Type: variable(0)})
	}
	wantUnify(t, grouped(up), grouped(down), all...)
	slices.Reverse(up)
	slices.Reverse(down)
	wantUnify(t, grouped(up), grouped(down), all...)

	var a, b []list
	for v := range 150 {
		a = append(a, variable(v))
		b = append(b, sequence(variable(v+1)))
	}
	wantError(t, grouped(a), grouped(b), api.ErrFull)
	wantError(t, tuple(grouped(a), variable(150)), tuple(grouped(b), variable(0)), api.ErrInfinite)
	wantError(t, tuple(grouped(a), variable(0)), tuple(grouped(b), nested(40, boolean())), api.ErrType)
	wantError(t, tuple(grouped(a), variable(0)), tuple(grouped(b), nested(40, variable(200))), api.ErrFull)
	wantError(t, tuple(grouped(a), variable(100), variable(0)), tuple(grouped(b), integer(), nested(61, boolean())), api.ErrType)
}

// R2: the result shares no memory with the arguments, and its types share none with each other.
func TestUnifySharesNothing(t *testing.T) {
	a := tuple(variable(0), variable(1), variable(2), variable(3))
	b := tuple(tuple(integer(), variable(4)), variable(0), variable(0), variable(5))
	oldA, oldB := slices.Clone(a), slices.Clone(b)
	s, _ := types.Unify(a, b)
	again, _ := types.Unify(a, b)
	for i := range s {
		others := cloneBindings(s[i+1:])
		scribble(s[i : i+1])
		if !equalBindings(s[i+1:], others) {
			t.Errorf("the types of Unify(%v, %v) share memory", a, b)
		}
	}
	if !slices.Equal(a, oldA) || !slices.Equal(b, oldB) {
		t.Errorf("the result of Unify(%v, %v) shares memory with them", oldA, oldB)
	}
	if len(again) != 4 || !equalBindings(again[:1], bind(0, tuple(integer(), variable(4)))) {
		t.Errorf("the results of two calls share memory: %v", again)
	}
}
