package types_test

import (
	"slices"
	"strings"
	"testing"

	"cspcheck/api"
	"cspcheck/types"
)

func wantFormat(t *testing.T, x list, names []string, want string) {
	t.Helper()
	oldX, oldNames := slices.Clone(x), slices.Clone(names)
	if got := types.Format(x, names); got != want {
		t.Errorf("Format(%v, %q) = %q, want %q", x, names, got, want)
	}
	if !slices.Equal(x, oldX) || !slices.Equal(names, oldNames) {
		t.Errorf("Format(%v, %q) changed its arguments", oldX, oldNames)
	}
}

// P7.6: the text of each kind.
func TestFormatOfKinds(t *testing.T) {
	names := []string{"Colour", "", "a b"}
	a, b := sequence(integer()), set(boolean())
	for _, test := range []struct {
		x    list
		want string
	}{
		{variable(0), "t0"},
		{variable(12), "t12"},
		{variable(maxNum), "t1073741824"},
		{integer(), "Int"},
		{boolean(), "Bool"},
		{event(), "Event"},
		{process(), "Proc"},
		{data(0), "Colour"},
		{data(1), ""},
		{data(2), "a b"},
		{data(3), "D3"},
		{data(maxNum), "D1073741824"},
		{a, "<Int>"},
		{b, "{Bool}"},
		{mapping(a, b), "(|<Int> => {Bool}|)"},
		{tuple(a, b), "(<Int>, {Bool})"},
		{tuple(a, b, variable(1), event()), "(<Int>, {Bool}, t1, Event)"},
		{function(a), "() -> <Int>"},
		{function(a, b), "(<Int>) -> {Bool}"},
		{function(a, b, variable(1), process()), "(<Int>, {Bool}, t1) -> Proc"},
		{dot(a, b), "(<Int>.{Bool})"},
		{extension(a, b), "(<Int> => {Bool})"},
	} {
		wantFormat(t, test.x, names, test.want)
		wantFormat(t, sequence(set(test.x)), names, "<{"+test.want+"}>")
		wantFormat(t, tuple(test.x, function(test.x)), names, "("+test.want+", () -> "+test.want+")")
	}
	wantFormat(t, data(0), nil, "D0")
	wantFormat(t, data(0), []string{}, "D0")
}

// P7.6: nested types.
func TestFormatOfNestedTypes(t *testing.T) {
	wantFormat(t, function(function(variable(0), variable(1)), function(variable(0), function(variable(1)))), nil, "((t0) -> t1) -> (t0) -> () -> t1")
	wantFormat(t, extension(integer(), extension(boolean(), data(0))), []string{"T"}, "(Int => (Bool => T))")
	wantFormat(t, extension(extension(integer(), boolean()), event()), nil, "((Int => Bool) => Event)")
	wantFormat(t, dot(dot(data(1), variable(3)), dot(integer(), data(0))), []string{"A"}, "((D1.t3).(Int.A))")
	wantFormat(t, tuple(tuple(integer(), boolean()), mapping(tuple(event(), event()), set(set(process())))), nil, "((Int, Bool), (|(Event, Event) => {{Proc}}|))")
	wantFormat(t, nested(api.MaxNest-1, integer()), nil, strings.Repeat("<", api.MaxNest-1)+"Int"+strings.Repeat(">", api.MaxNest-1))
	long := strings.Repeat("n", 1<<16)
	wantFormat(t, tuple(copies(api.MaxArity, data(0))...), []string{long}, "("+strings.Repeat(long+", ", api.MaxArity-1)+long+")")
}

// P7.6: a list that is no type has no text.
func TestFormatOfInvalidTypes(t *testing.T) {
	for _, x := range invalid() {
		wantFormat(t, x, []string{"T"}, "")
	}
}
