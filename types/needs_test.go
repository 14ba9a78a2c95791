package types_test

import (
	"slices"
	"testing"

	"cspcheck/api"
	"cspcheck/types"
)

const allClasses = api.ClassEq + api.ClassOrd + api.ClassSet

// wantNeeds checks that all variables of a type need all classes.
func wantNeeds(t *testing.T, x list, classes int, variables ...int) {
	t.Helper()
	before := slices.Clone(x)
	var want []api.Need
	for _, v := range variables {
		want = append(want, api.Need{Var: v, Classes: classes})
	}
	if got, ok := types.Needs(x, classes); !ok || !slices.Equal(got, want) {
		t.Errorf("Needs(%v, %d) = %v, %v, want %v", x, classes, got, ok, want)
	}
	if !slices.Equal(x, before) {
		t.Errorf("Needs(%v, %d) changed its argument", before, classes)
	}
}

func wantNoNeeds(t *testing.T, x list, classes int) {
	t.Helper()
	if got, ok := types.Needs(x, classes); ok || len(got) != 0 {
		t.Errorf("Needs(%v, %d) = %v, %v, want none", x, classes, got, ok)
	}
}

// wantClasses checks for each sum of classes whether a type belongs to them.
func wantClasses(t *testing.T, x list, member int, variables ...int) {
	t.Helper()
	for classes := 1; classes <= allClasses; classes++ {
		if classes&member == classes {
			wantNeeds(t, x, classes, variables...)
		} else {
			wantNoNeeds(t, x, classes)
		}
	}
	wantNeeds(t, x, 0)
}

// P7.5: the classes of types without variables.
func TestClassesOfTypes(t *testing.T) {
	const equality = api.ClassEq + api.ClassSet
	members := map[int][]list{
		allClasses: {integer(), boolean()},
		equality:   {event(), data(0), data(maxNum)},
		0:          {process(), function(integer()), function(integer(), boolean())},
	}
	for member, l := range members {
		for _, x := range l {
			wantClasses(t, x, member)
			for _, y := range []list{sequence(x), tuple(x, integer()), tuple(integer(), x), tuple(append(copies(7, boolean()), x)...), nested(40, x)} {
				wantClasses(t, y, member)
			}
			for _, y := range []list{set(x), mapping(x, integer()), mapping(integer(), x), dot(x, integer()), dot(integer(), x), extension(x, integer()), extension(integer(), x), sequence(tuple(integer(), set(sequence(x))))} {
				wantClasses(t, y, member&equality)
			}
			for _, y := range []list{function(x), function(x, integer()), function(integer(), x), tuple(integer(), function(x))} {
				wantClasses(t, y, 0)
			}
		}
	}
}

// P7.5: the variables need the classes, ascending.
func TestNeedsOfVariables(t *testing.T) {
	wantClasses(t, variable(0), allClasses, 0)
	wantClasses(t, variable(maxNum), allClasses, maxNum)
	wantClasses(t, sequence(tuple(variable(9), variable(2), tuple(variable(5), variable(9)))), allClasses, 2, 5, 9)
	for _, x := range []list{set(variable(3)), mapping(variable(3), variable(3)), dot(variable(3), data(0)), extension(event(), variable(3))} {
		wantClasses(t, x, api.ClassEq+api.ClassSet, 3)
	}
	wantClasses(t, mapping(variable(7), set(tuple(variable(8), variable(1)))), api.ClassEq+api.ClassSet, 1, 7, 8)
	wantClasses(t, function(variable(0), variable(1)), 0)
	wantClasses(t, tuple(variable(0), process()), 0)
}

func TestNeedsExample(t *testing.T) {
	x := sequence(tuple(variable(0), set(variable(1))))
	wantNoNeeds(t, x, api.ClassOrd)
	wantNeeds(t, x, api.ClassEq, 0, 1)
}

// P7.5: invalid arguments.
func TestNeedsOfInvalidArguments(t *testing.T) {
	for _, classes := range []int{-1, allClasses + 1, 8 + api.ClassEq, 16, -8, 1 << 62, -1 << 63} {
		wantNoNeeds(t, integer(), classes)
		wantNoNeeds(t, variable(0), classes)
	}
	for _, x := range invalid() {
		for classes := range allClasses + 1 {
			wantNoNeeds(t, x, classes)
		}
	}
}
