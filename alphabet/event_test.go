package alphabet_test

import (
	"math"
	"testing"

	"cspcheck/alphabet"
	"cspcheck/api"
	"cspcheck/value"
)

// channel returns the event of a channel.
func channel(name int, fields ...api.Value) api.Value {
	return value.Dot(name, fields)
}

func wantIndex(t *testing.T, l []api.Value, v api.Value, want int) {
	t.Helper()
	if got := alphabet.Index(l, v); got != want {
		t.Errorf("Index of %s is %d, want %d", value.Text(v, nil), got, want)
	}
}

func wantEvent(t *testing.T, l []api.Value, n int, want api.Value) {
	t.Helper()
	if got, ok := alphabet.Event(l, n); got != want || !ok {
		t.Errorf("Event(%d) is %q, %v, want %q", n, got, ok, want)
	}
}

func wantNoEvent(t *testing.T, l []api.Value, n int) {
	t.Helper()
	if got, ok := alphabet.Event(l, n); got != "" || ok {
		t.Errorf("Event(%d) is %q, %v, want none", n, got, ok)
	}
}

func TestIndexAndEvent(t *testing.T) {
	l := []api.Value{channel(0, value.Int(1)), channel(0, value.Int(0)), channel(1), channel(0, value.Int(0), value.Int(0))}
	for i, v := range l {
		wantIndex(t, l, v, first+i)
		wantEvent(t, l, first+i, v)
	}
	for _, v := range []api.Value{channel(0), channel(1, value.Int(0)), channel(0, value.Int(2)), channel(2), value.Int(0), ""} {
		wantIndex(t, l, v, -1)
	}
	for _, n := range []int{api.Tau, api.Tick, -1, -first, first + len(l), last, last + 1, math.MinInt, math.MinInt + 1, math.MinInt + first, math.MaxInt, first + 1<<32} {
		wantNoEvent(t, l, n)
	}
}

func TestIndexOfTheFirstEqualElement(t *testing.T) {
	l := []api.Value{channel(0), channel(1), channel(1), channel(0)}
	wantIndex(t, l, channel(1), first+1)
	wantIndex(t, l, channel(0), first)
	wantEvent(t, l, first+2, channel(1))
	wantEvent(t, l, first+3, channel(0))
}

func TestNoEvents(t *testing.T) {
	wantIndex(t, nil, channel(0), -1)
	wantIndex(t, nil, "", -1)
	for _, n := range []int{api.Tau, api.Tick, first, last, -1} {
		wantNoEvent(t, nil, n)
	}
}

func TestValuesThatAreNotValid(t *testing.T) {
	l := []api.Value{"\x07\x00", "", channel(0), ""}
	wantIndex(t, l, "\x07\x00", first)
	wantIndex(t, l, "", first+1)
	wantIndex(t, l, "\x07", -1)
	wantEvent(t, l, first+1, "")
	wantEvent(t, l, first+2, channel(0))
}

func TestAsManyEventsAsThereMayBe(t *testing.T) {
	var l []api.Value
	for i := range api.MaxEvents {
		l = append(l, channel(0, value.Int(int64(i))))
	}
	for i, v := range l {
		wantIndex(t, l, v, first+i)
		wantEvent(t, l, first+i, v)
	}
	wantEvent(t, l, last, l[api.MaxEvents-1])
	wantNoEvent(t, l, last+1)
}
