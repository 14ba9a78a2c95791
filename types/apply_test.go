package types_test

import (
	"slices"
	"testing"

	"cspcheck/api"
	"cspcheck/types"
)

// P7.2: the variables that have a Binding are replaced, everywhere, and nothing else is.
func TestApplyReplacesVariables(t *testing.T) {
	x := function(variable(5), tuple(variable(2), integer(), data(5)), sequence(variable(5)))
	wantApply(t, nil, x, x)
	wantApply(t, []binding{}, x, x)
	wantApply(t, bind(7, integer()), x, x)
	wantApply(t, bind(5, event()), x, function(event(), tuple(variable(2), integer(), data(5)), sequence(event())))
	wantApply(t, []binding{{Var: 2, Type: set(boolean())}, {Var: 5, Type: process()}}, x, function(process(), tuple(set(boolean()), integer(), data(5)), sequence(process())))
	wantApply(t, bind(0, boolean()), tuple(integer(), data(0), event()), tuple(integer(), data(0), event()))
	wantApply(t, bind(maxNum, integer()), variable(maxNum), integer())
	wantApply(t, bind(3, x), variable(3), x)
}

// P7.2: all variables are replaced at the same time.
func TestApplyAtTheSameTime(t *testing.T) {
	swap := []binding{{Var: 2, Type: variable(5)}, {Var: 5, Type: variable(2)}}
	wantApply(t, swap, tuple(variable(5), variable(2)), tuple(variable(2), variable(5)))
	wantApply(t, bind(1, sequence(variable(1))), tuple(variable(1), variable(2)), tuple(sequence(variable(1)), variable(2)))
	chain := []binding{{Var: 0, Type: variable(1)}, {Var: 1, Type: variable(2)}, {Var: 2, Type: variable(3)}}
	wantApply(t, chain, tuple(variable(0), variable(1), variable(2), variable(3)), tuple(variable(1), variable(2), variable(3), variable(3)))
}

// P7.2: there is no result for an invalid type.
func TestApplyToInvalidTypes(t *testing.T) {
	for _, x := range invalid() {
		wantApply(t, nil, x, nil)
		wantApply(t, bind(0, integer()), x, nil)
	}
	wantApply(t, bind(0, sequence(integer())), list{{Kind: api.TypeVar, Kids: 1}, {Kind: api.TypeInt}}, nil)
}

// P7.2: there is no result if the Bindings are no substitution.
func TestApplyOfInvalidSubstitutions(t *testing.T) {
	x := tuple(variable(0), variable(4))
	for _, l := range invalid() {
		wantApply(t, bind(0, l), x, nil)
		wantApply(t, bind(7, l), x, nil)
		wantApply(t, []binding{{Var: 0, Type: integer()}, {Var: 4, Type: l}}, x, nil)
		wantApply(t, []binding{{Var: 0, Type: l}, {Var: 4, Type: integer()}}, x, nil)
	}
	for _, order := range [][]int{{4, 0}, {4, 4}, {0, 4, 4}, {0, 5, 4}, {5, 0, 4}, {7, 7}} {
		var s []binding
		for _, v := range order {
			s = append(s, binding{Var: v, Type: integer()})
		}
		wantApply(t, s, x, nil)
	}
	wantApply(t, []binding{{Var: 0, Type: integer()}, {Var: 1, Type: integer()}, {Var: 4, Type: integer()}}, x, tuple(integer(), integer()))
}

// P7.2: there is no result if it would have too many nodes or be nested too deep.
func TestApplyLimits(t *testing.T) {
	half := sized(api.MaxTypeNodes / 2)
	pair := tuple(variable(0), variable(1))
	wantApply(t, []binding{{Var: 0, Type: half}, {Var: 1, Type: half[:0:0]}}, pair, nil)
	smaller := sized(api.MaxTypeNodes/2 - 1)
	wantApply(t, []binding{{Var: 0, Type: half}, {Var: 1, Type: smaller}}, pair, tuple(half, smaller))
	wantApply(t, []binding{{Var: 0, Type: half}, {Var: 1, Type: half}}, pair, nil)
	wantApply(t, bind(0, sized(api.MaxTypeNodes-1)), sequence(variable(0)), sequence(sized(api.MaxTypeNodes-1)))
	wantApply(t, bind(0, sized(api.MaxTypeNodes)), sequence(variable(0)), nil)
	wantApply(t, bind(0, sized(api.MaxTypeNodes)), variable(0), sized(api.MaxTypeNodes))

	deep := nested(api.MaxNest/2, integer())
	wantApply(t, bind(0, deep), nested(api.MaxNest/2-1, variable(0)), nested(api.MaxNest-1, integer()))
	wantApply(t, bind(0, deep), nested(api.MaxNest/2, variable(0)), nil)
	wantApply(t, bind(0, deep), tuple(integer(), nested(api.MaxNest/2-1, variable(0))), nil)

	everywhere := grouped(copies(400, variable(0)))
	wantApply(t, bind(0, sized(api.MaxTypeNodes)), everywhere, nil)
	wantApply(t, bind(0, data(1)), everywhere, grouped(copies(400, data(1))))
}

// P7.2: a substitution may replace numbers that no variable of a type has.
func TestApplyOfOtherNumbers(t *testing.T) {
	s := []binding{{Var: -5, Type: boolean()}, {Var: 0, Type: integer()}, {Var: maxNum + 1, Type: boolean()}}
	wantApply(t, s, tuple(variable(0), variable(1)), tuple(integer(), variable(1)))
	wantApply(t, s, variable(-5), nil)
	wantApply(t, s, variable(maxNum+1), nil)
}

// P7.2: a substitution may have more Bindings than a type can have variables.
func TestApplyOfLongSubstitutions(t *testing.T) {
	var s []binding
	for v := range 20000 {
		s = append(s, binding{Var: v, Type: data(v)})
	}
	wantApply(t, s, tuple(variable(0), variable(19999), variable(20000)), tuple(data(0), data(19999), variable(20000)))
	s[10000].Var = 9999
	wantApply(t, s, variable(0), nil)
}

// R2: the result shares no memory with the arguments.
func TestApplySharesNothing(t *testing.T) {
	for _, x := range []list{variable(0), integer(), tuple(variable(0), integer(), variable(1))} {
		s := []binding{{Var: 0, Type: tuple(integer(), variable(1))}, {Var: 1, Type: variable(0)}}
		oldS, oldX := cloneBindings(s), slices.Clone(x)
		scribble(bind(0, types.Apply(s, x)))
		scribble(bind(0, types.Apply(nil, x)))
		if !equalBindings(s, oldS) || !slices.Equal(x, oldX) {
			t.Errorf("the result of Apply(%v, %v) shares memory with them", oldS, oldX)
		}
	}
}
