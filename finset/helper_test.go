package finset_test

import (
	"fmt"
	"slices"
	"strings"
	"testing"

	"cspcheck/api"
	"cspcheck/value"
)

type list = []api.Value

func of(l ...api.Value) list { return l }

func n(i int64) api.Value { return value.Int(i) }

// ints returns the integers as values.
func ints(numbers ...int64) list {
	var l list
	for _, i := range numbers {
		l = append(l, n(i))
	}
	return l
}

// between returns the integers from a to b as values.
func between(a, b int64) list {
	var l list
	for i := a; i <= b; i++ {
		l = append(l, n(i))
	}
	return l
}

// set returns a set of integers.
func set(numbers ...int64) api.Value { return value.Set(ints(numbers...)) }

// sets returns a set of values.
func sets(l ...api.Value) api.Value { return value.Set(l) }

// seq returns a sequence of values.
func seq(l ...api.Value) api.Value { return value.Seq(l) }

// mapOf returns the map of alternating keys and values.
func mapOf(l ...api.Value) api.Value {
	var keys, values list
	for i := 0; i < len(l); i += 2 {
		keys, values = append(keys, l[i]), append(values, l[i+1])
	}
	return value.Map(keys, values)
}

// sized returns a sequence of n bytes, at least 10 and no more than the limit, whose first element is a boolean.
func sized(n int, first bool) api.Value {
	l := of(value.Bool(first))
	if n%2 == 0 {
		l = append(l, value.Name(0))
	}
	for left := n - len(value.Seq(l)); left > 0; left -= 2 {
		l = append(l, value.Bool(true))
	}
	return value.Seq(l)
}

// nested returns a value inside k sequences.
func nested(k int, v api.Value) api.Value {
	for range k {
		v = value.Seq(of(v))
	}
	return v
}

// shown returns a result as a short text for messages.
func shown(v api.Value, err api.Errno) string {
	text := value.Text(v, nil)
	if text == "" {
		text = fmt.Sprintf("<%x>", string(v))
	}
	if len(text) > 200 {
		text = fmt.Sprintf("%s.. (%d bytes)", text[:200], len(v))
	}
	return fmt.Sprintf("%s, error %d", text, err)
}

// wantText requires a valid value with this text.
func wantText(t *testing.T, what string, want string) func(v api.Value, err api.Errno) {
	return func(v api.Value, err api.Errno) {
		t.Helper()
		if err != api.OK || !value.Valid(v) || value.Text(v, nil) != want {
			t.Errorf("%s is %s, want %s", what, shown(v, err), want)
		}
	}
}

// wantValue requires this value, which must be valid itself.
func wantValue(t *testing.T, what string, want api.Value) func(v api.Value, err api.Errno) {
	return func(v api.Value, err api.Errno) {
		t.Helper()
		if !value.Valid(want) {
			t.Fatalf("%s: the wanted value is not valid", what)
		}
		if err != api.OK || v != want {
			t.Errorf("%s is %s, want %s", what, shown(v, err), shown(want, api.OK))
		}
	}
}

// wantError requires an error and no value.
func wantError(t *testing.T, what string, want api.Errno) func(v api.Value, err api.Errno) {
	return func(v api.Value, err api.Errno) {
		t.Helper()
		if err != want || v != "" {
			t.Errorf("%s is %s, want error %d", what, shown(v, err), want)
		}
	}
}

// wantBool requires a result without an error.
func wantBool(t *testing.T, what string, want bool) func(got bool, err api.Errno) {
	return func(got bool, err api.Errno) {
		t.Helper()
		if err != api.OK || got != want {
			t.Errorf("%s is %v, error %d, want %v", what, got, err, want)
		}
	}
}

// wantNoBool requires an error and false.
func wantNoBool(t *testing.T, what string, want api.Errno) func(got bool, err api.Errno) {
	return func(got bool, err api.Errno) {
		t.Helper()
		if err != want || got {
			t.Errorf("%s is %v, error %d, want error %d", what, got, err, want)
		}
	}
}

// notValues returns encodings of no value.
func notValues() list {
	return of("", "\x05", "\x05\x00", "\x00", "\x0b\x00\x00", "\x05\x00\x00\x00",
		// A set that is not ascending, one with a duplicate, one with an element too few, and one with an element that is not valid.
		"\x05\x00\x02"+n(2)+n(1), "\x05\x00\x02"+n(1)+n(1), "\x05\x00\x02"+n(1), "\x05\x00\x01\x02\x02",
		// A map with a key too many, one that is not ascending, and one with a duplicate.
		"\x06\x00\x01"+n(1), "\x06\x00\x04"+n(2)+n(1)+n(1)+n(1), "\x06\x00\x04"+n(1)+n(1)+n(1)+n(2),
		// A set that is too deep, and one that is too long.
		"\x05\x00\x01"+nested(api.MaxValueNest-1, n(1)), "\x05\x00\x01"+sized(api.MaxValue-2, true),
		api.Value(strings.Repeat("\x05\x00\x01", 40000)))
}

// otherKinds returns a value of each kind but one.
func otherKinds(kind int) list {
	l := of(n(5), value.Bool(true), value.Name(5), value.Tuple(ints(1, 2)), seq(), seq(n(1)), sets(), set(1), sets(set(1)), mapOf(), mapOf(n(1), n(2)), value.Dot(1, nil), value.Fun(5, nil), value.Proc(api.ProcStop, nil))
	return slices.DeleteFunc(l, func(v api.Value) bool { return value.Kind(v) == kind })
}

// notSets returns encodings of no set.
func notSets() list { return slices.Concat(notValues(), otherKinds(api.ValSet)) }

// notMaps returns encodings of no map.
func notMaps() list { return slices.Concat(notValues(), otherKinds(api.ValMap)) }
