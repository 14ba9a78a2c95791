package value_test

import (
	"encoding/hex"
	"fmt"
	"slices"
	"strings"
	"testing"

	"cspcheck/api"
	"cspcheck/value"
)

const maxNumber = 65535

type list = []api.Value

func of(l ...api.Value) list { return l }

// ints returns the integers as values.
func ints(numbers ...int64) list {
	var l list
	for _, n := range numbers {
		l = append(l, value.Int(n))
	}
	return l
}

// upTo returns the integers from 0 to n - 1 as values.
func upTo(n int) list {
	var l list
	for i := range n {
		l = append(l, value.Int(int64(i)))
	}
	return l
}

// code returns the value of hexadecimal digits, between which there may be spaces.
func code(digits string) api.Value {
	bytes, err := hex.DecodeString(strings.ReplaceAll(digits, " ", ""))
	if err != nil {
		panic(err)
	}
	return api.Value(bytes)
}

// nested returns a value inside n sequences, whose encoding is put together here.
func nested(n int, v api.Value) api.Value {
	return api.Value(strings.Repeat("\x04\x00\x01", n)) + v
}

// shown returns a value as a short text for messages.
func shown(v api.Value) string {
	if len(v) > 40 {
		return fmt.Sprintf("%x.. (%d bytes)", string(v[:40]), len(v))
	}
	return fmt.Sprintf("<%x>", string(v))
}

// wantCode requires a valid value with the encoding of these digits.
func wantCode(t *testing.T, what string, got api.Value, digits string) {
	t.Helper()
	if want := code(digits); got != want {
		t.Errorf("%s is %s, want %s", what, shown(got), shown(want))
	}
	wantValid(t, what, got, true)
}

// wantNone requires the empty string.
func wantNone(t *testing.T, what string, got api.Value) {
	t.Helper()
	if got != "" {
		t.Errorf("%s is %s, want the empty string", what, shown(got))
	}
}

// wantValid requires the result of Valid, and that Kind, Number, Parts and Text treat other values as they must.
func wantValid(t *testing.T, what string, v api.Value, want bool) {
	t.Helper()
	if got := value.Valid(v); got != want {
		t.Errorf("%s: Valid(%s) is %v", what, shown(v), got)
	}
	if want {
		if got := value.Kind(v); got != int(v[0]) {
			t.Errorf("%s: Kind(%s) is %d", what, shown(v), got)
		}
		return
	}
	if got := value.Kind(v); got != 0 {
		t.Errorf("%s: Kind(%s) is %d", what, shown(v), got)
	}
	if got := value.Number(v); got != 0 {
		t.Errorf("%s: Number(%s) is %d", what, shown(v), got)
	}
	if got := value.Parts(v); len(got) != 0 {
		t.Errorf("%s: Parts(%s) has %d elements", what, shown(v), len(got))
	}
	if got := value.Text(v, nil); got != "" {
		t.Errorf("%s: Text(%s) is %q", what, shown(v), got)
	}
}

// wantParts requires a compound value of this kind with these parts.
func wantParts(t *testing.T, what string, v api.Value, kind int, parts list) {
	t.Helper()
	if got := value.Kind(v); got != kind {
		t.Errorf("%s: Kind is %d, want %d", what, got, kind)
	}
	if got := value.Number(v); got != 0 {
		t.Errorf("%s: Number is %d, want 0", what, got)
	}
	if got := value.Parts(v); !slices.Equal(got, parts) {
		t.Errorf("%s: Parts are %q, want %q", what, got, parts)
	}
}

// wantNumber requires a value without parts of this kind and with this number.
func wantNumber(t *testing.T, what string, v api.Value, kind int, number int64) {
	t.Helper()
	if got := value.Kind(v); got != kind {
		t.Errorf("%s: Kind is %d, want %d", what, got, kind)
	}
	if got := value.Number(v); got != number {
		t.Errorf("%s: Number is %d, want %d", what, got, number)
	}
	if got := value.Parts(v); len(got) != 0 {
		t.Errorf("%s: Parts are %q", what, got)
	}
}

// wantAscending requires that each element of a list precedes all later ones.
func wantAscending(t *testing.T, l list) {
	t.Helper()
	for i, a := range l {
		for k, b := range l {
			want := 0
			switch {
			case i < k:
				want = -1
			case i > k:
				want = 1
			}
			if got := value.Compare(a, b); got != want {
				t.Errorf("Compare(%s, %s) is %d, want %d", shown(a), shown(b), got, want)
			}
		}
	}
}

func wantText(t *testing.T, v api.Value, want string, names ...string) {
	t.Helper()
	if got := value.Text(v, names); got != want {
		t.Errorf("Text(%s) is %q, want %q", shown(v), got, want)
	}
}
