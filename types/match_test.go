package types_test

import (
	"slices"
	"testing"

	"cspcheck/api"
	"cspcheck/types"
)

// P7.4: exactly the variables of a are replaced.
func TestMatch(t *testing.T) {
	wantMatch(t, integer(), integer())
	wantMatch(t, function(variable(5), variable(2), variable(5)), function(integer(), variable(9), integer()), binding{Var: 2, Type: variable(9)}, binding{Var: 5, Type: integer()})
	wantMatch(t, tuple(sequence(variable(3)), data(1), variable(0)), tuple(sequence(tuple(boolean(), process())), data(1), variable(maxNum)), binding{Var: 0, Type: variable(maxNum)}, binding{Var: 3, Type: tuple(boolean(), process())})
	wantMatch(t, variable(1), variable(1), binding{Var: 1, Type: variable(1)})
	wantMatch(t, tuple(variable(0), variable(1)), tuple(variable(1), variable(0)), binding{Var: 0, Type: variable(1)}, binding{Var: 1, Type: variable(0)})
	wantMatch(t, tuple(variable(0), variable(1)), tuple(integer(), integer()), binding{Var: 0, Type: integer()}, binding{Var: 1, Type: integer()})
	wantMatch(t, variable(0), sequence(variable(0)), binding{Var: 0, Type: sequence(variable(0))})
	wantMatch(t, tuple(variable(0), variable(0)), tuple(set(variable(0)), set(variable(0))), binding{Var: 0, Type: set(variable(0))})
	wantMatch(t, variable(2), sized(api.MaxTypeNodes), binding{Var: 2, Type: sized(api.MaxTypeNodes)})
	wantMatch(t, nested(api.MaxNest-1, variable(2)), nested(api.MaxNest-1, data(0)), binding{Var: 2, Type: data(0)})
}

// P7.4: no substitution makes a equal to b.
func TestNoMatch(t *testing.T) {
	kinds := []list{
		integer(), boolean(), event(), process(), data(0), data(1),
		sequence(integer()), set(integer()), mapping(integer(), integer()), dot(integer(), integer()), extension(integer(), integer()),
		tuple(integer(), integer()), tuple(integer(), integer(), integer()), tuple(integer(), boolean()), function(integer()), function(integer(), integer()),
	}
	for i, a := range kinds {
		for j, b := range kinds {
			if i == j {
				wantMatch(t, a, b)
			} else {
				wantNoMatch(t, a, b)
				wantNoMatch(t, tuple(variable(0), a), tuple(variable(1), b))
			}
		}
		wantNoMatch(t, a, variable(0))
	}
	wantNoMatch(t, integer(), variable(0))
	wantNoMatch(t, sequence(integer()), sequence(variable(0)))
	wantNoMatch(t, tuple(variable(0), variable(0)), tuple(integer(), boolean()))
	wantNoMatch(t, tuple(variable(0), variable(0)), tuple(integer(), variable(0)))
	wantNoMatch(t, tuple(variable(0), variable(0)), tuple(variable(0), variable(1)))
	wantNoMatch(t, tuple(variable(0), variable(1), variable(0)), tuple(sequence(integer()), integer(), sequence(boolean())))
	wantNoMatch(t, tuple(variable(0), variable(1), variable(0)), tuple(tuple(integer(), boolean()), integer(), tuple(integer(), boolean(), event())))
}

// P7.4: invalid arguments do not match.
func TestMatchOfInvalidTypes(t *testing.T) {
	for _, x := range invalid() {
		wantNoMatch(t, x, x)
		wantNoMatch(t, variable(0), x)
		wantNoMatch(t, x, integer())
		wantNoMatch(t, x, variable(0))
		wantNoMatch(t, sequence(variable(0)), sequence(x))
	}
}

// R2: the result of Match shares no memory with the arguments, and its types share none with each other.
func TestMatchSharesNothing(t *testing.T) {
	a, b := tuple(variable(0), variable(1), variable(2)), tuple(sequence(integer()), variable(0), sequence(integer()))
	oldA, oldB := slices.Clone(a), slices.Clone(b)
	s, _ := types.Match(a, b)
	for i := range s {
		others := cloneBindings(s[i+1:])
		scribble(s[i : i+1])
		if !equalBindings(s[i+1:], others) {
			t.Errorf("the types of Match(%v, %v) share memory", a, b)
		}
	}
	if !slices.Equal(a, oldA) || !slices.Equal(b, oldB) {
		t.Errorf("the result of Match(%v, %v) shares memory with them", oldA, oldB)
	}
}

func wantCanon(t *testing.T, x, want list) {
	t.Helper()
	before := slices.Clone(x)
	got := types.Canon(x)
	if !slices.Equal(got, want) {
		t.Errorf("Canon(%v) = %v, want %v", x, got, want)
	}
	if again := types.Canon(got); !slices.Equal(again, got) {
		t.Errorf("Canon(%v) = %v, but Canon of this is %v", x, got, again)
	}
	scribble(bind(0, got))
	if !slices.Equal(x, before) {
		t.Errorf("Canon(%v) changed its argument or shares memory with it", before)
	}
}

// P7.4: variables are renumbered in the order of their first occurrence.
func TestCanon(t *testing.T) {
	wantCanon(t, integer(), integer())
	wantCanon(t, variable(maxNum), variable(0))
	wantCanon(t, variable(0), variable(0))
	wantCanon(t, function(variable(5), variable(2), variable(5)), function(variable(0), variable(1), variable(0)))
	wantCanon(t, tuple(variable(1), variable(0), variable(2), variable(0)), tuple(variable(0), variable(1), variable(2), variable(1)))
	wantCanon(t, dot(data(7), sequence(extension(variable(7), tuple(variable(1), data(1), variable(7))))), dot(data(7), sequence(extension(variable(0), tuple(variable(1), data(1), variable(0))))))
	var many, want []list
	for v := range 400 {
		many = append(many, variable(1000-v))
		want = append(want, variable(v))
	}
	wantCanon(t, grouped(many), grouped(want))
	for _, x := range invalid() {
		wantCanon(t, x, nil)
	}
}
