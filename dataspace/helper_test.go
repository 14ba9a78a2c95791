package dataspace_test

import (
	"fmt"
	"slices"
	"strings"
	"testing"

	"cspcheck/api"
	"cspcheck/dataspace"
	"cspcheck/value"
)

type list = []api.Value

type infos = []api.Info

func of(l ...api.Value) list { return l }

func n(i int64) api.Value { return value.Int(i) }

// upTo returns the integers from 0 to k - 1 as values.
func upTo(k int) list {
	var l list
	for i := range int64(k) {
		l = append(l, n(i))
	}
	return l
}

func set(l ...api.Value) api.Value { return value.Set(l) }

func seq(l ...api.Value) api.Value { return value.Seq(l) }

// dot returns a dotted value.
func dot(name int, fields ...api.Value) api.Value { return value.Dot(name, fields) }

// unbounded is the domain to which all values belong.
const unbounded = api.Value("")

const (
	no  = api.Value("\x02\x00")
	yes = api.Value("\x02\x01")
)

// bit and flag are the domains {0, 1} and {false, true}.
func bit() api.Value { return set(n(0), n(1)) }

func flag() api.Value { return set(no, yes) }

// channel returns a channel, and con a constructor of a datatype.
func channel(name string, domains ...api.Value) api.Info { return con(name, -1, domains...) }

func con(name string, data int, domains ...api.Value) api.Info {
	return api.Info{Name: name, Data: data, Domains: domains}
}

// sample returns channels and constructors of several datatypes, some with unbounded or empty domains.
func sample() infos {
	return infos{
		channel("c", bit(), flag()), channel("d"), con("A", 0), con("B", 0, bit()), con("N", 1, unbounded), con("Z", 1),
		con("E", 2, set(), bit()), con("F", 2, flag()), channel("e", set(seq(), n(-1), n(7))), channel("f", set(), bit()), con("M", 3, bit(), unbounded, flag()),
	}
}

// copied returns a list that shares no memory with l.
func copied(l infos) infos {
	m := slices.Clone(l)
	for i := range m {
		m[i].Fields, m[i].Domains = slices.Clone(m[i].Fields), slices.Clone(m[i].Domains)
	}
	return m
}

// sized returns a sequence of k bytes, at least 10 and no more than the limit, whose first element is a boolean.
func sized(k int, first bool) api.Value {
	l := of(value.Bool(first))
	if k%2 == 0 {
		l = append(l, value.Name(0))
	}
	return value.Seq(append(l, slices.Repeat(of(yes), (k-len(value.Seq(l)))/2)...))
}

// nested returns a value inside k sequences.
func nested(k int, v api.Value) api.Value {
	for range k {
		v = seq(v)
	}
	return v
}

// shown returns a value as a short text for messages.
func shown(v api.Value, names []string) string {
	text := value.Text(v, names)
	if text == "" {
		text = fmt.Sprintf("<%x>", string(v))
	}
	if len(text) > 200 {
		text = fmt.Sprintf("%s.. (%d bytes)", text[:200], len(v))
	}
	return text
}

// wantText requires a valid value with this text, written with the names of the sample.
func wantText(t *testing.T, what string, want string) func(v api.Value, err api.Errno) {
	return func(v api.Value, err api.Errno) {
		t.Helper()
		names := dataspace.Names(sample())
		if err != api.OK || !value.Valid(v) || value.Text(v, names) != want {
			t.Errorf("%s is %s, error %d, want %s", what, shown(v, names), err, want)
		}
	}
}

// wantValue requires this value, which must be valid itself.
func wantValue(t *testing.T, what string, want api.Value) func(v api.Value, err api.Errno) {
	return func(v api.Value, err api.Errno) {
		t.Helper()
		if !value.Valid(want) {
			t.Fatalf("%s: the wanted value is not valid", what)
		}
		if err != api.OK || v != want {
			t.Errorf("%s is %s, error %d, want %s", what, shown(v, nil), err, shown(want, nil))
		}
	}
}

// wantSize requires a set of so many elements.
func wantSize(t *testing.T, what string, want int) func(v api.Value, err api.Errno) {
	return func(v api.Value, err api.Errno) {
		t.Helper()
		if got := len(value.Parts(v)); err != api.OK || value.Kind(v) != api.ValSet || got != want {
			t.Errorf("%s has %d elements, error %d, want %d", what, got, err, want)
		}
	}
}

// wantError requires an error and no value.
func wantError(t *testing.T, what string, want api.Errno) func(v api.Value, err api.Errno) {
	return func(v api.Value, err api.Errno) {
		t.Helper()
		if err != want || v != "" {
			t.Errorf("%s is %s, error %d, want error %d", what, shown(v, nil), err, want)
		}
	}
}

// wantEvents requires the events with these texts, written with the names of the list.
func wantEvents(t *testing.T, what string, l infos, want ...string) {
	t.Helper()
	events, err := dataspace.Events(l)
	var got []string
	for _, v := range events {
		got = append(got, value.Text(v, dataspace.Names(l)))
	}
	if err != api.OK || !slices.Equal(got, want) {
		t.Errorf("%s are %q, error %d, want %q", what, got, err, want)
	}
}

// wantNoEvents requires an error and no events.
func wantNoEvents(t *testing.T, what string, l infos, want api.Errno) {
	t.Helper()
	if events, err := dataspace.Events(l); err != want || len(events) != 0 {
		t.Errorf("%s are %d events, error %d, want error %d", what, len(events), err, want)
	}
}

// wantNext requires the result of Next, and that of Complete for a value that belongs to the list.
func wantNext(t *testing.T, what string, l infos, v, want api.Value) {
	t.Helper()
	if got, ok := dataspace.Next(l, v); got != want || !ok {
		t.Errorf("the next domain of %s is %s, %v, want %s", what, shown(got, nil), ok, shown(want, nil))
	}
	if dataspace.Complete(l, v) {
		t.Errorf("%s is complete", what)
	}
}

// wantNoNext requires that there is no next domain.
func wantNoNext(t *testing.T, what string, l infos, v api.Value, complete bool) {
	t.Helper()
	if got, ok := dataspace.Next(l, v); got != "" || ok {
		t.Errorf("the next domain of %s is %s, %v", what, shown(got, nil), ok)
	}
	if dataspace.Complete(l, v) != complete {
		t.Errorf("Complete of %s is %v", what, !complete)
	}
}

// notValues returns encodings of no value.
func notValues() list {
	return of("", "\x05", "\x05\x00", "\x00", "\x0b\x00\x00", "\x05\x00\x00\x00",
		// A set that is not ascending, one with a duplicate, and one with an element too few.
		"\x05\x00\x02"+n(2)+n(1), "\x05\x00\x02"+n(1)+n(1), "\x05\x00\x02"+n(1),
		// Dotted values without a name, with a number instead, with a field that is not valid, with a field too few, and with too many fields.
		"\x07\x00\x00", "\x07\x00\x01"+n(0), "\x07\x00\x02\x0a\x00\x00\x02\x02", "\x07\x00\x02\x0a\x00\x00", "\x07\x00\x0a\x0a\x00\x00"+api.Value(strings.Repeat("\x02\x00", 9)),
		// Sets and dotted values that are too deep or too long.
		"\x05\x00\x01"+nested(api.MaxValueNest-1, n(1)), "\x05\x00\x01"+sized(api.MaxValue-2, true),
		"\x07\x00\x02\x0a\x00\x00"+nested(api.MaxValueNest-1, n(1)), "\x07\x00\x02\x0a\x00\x00"+sized(api.MaxValue-5, true))
}

// otherKinds returns a value of each kind but one.
func otherKinds(kind int) list {
	l := of(n(0), yes, value.Name(0), value.Tuple(of(n(1), n(2))), seq(), seq(dot(0)), seq(value.Name(0), n(0)), set(), set(n(1)), set(dot(0)), value.Map(nil, nil), value.Map(of(dot(0)), of(dot(0))),
		dot(0), dot(0, n(0)), value.Fun(0, nil), value.Proc(api.ProcStop, nil))
	return slices.DeleteFunc(l, func(v api.Value) bool { return value.Kind(v) == kind })
}

// notOf returns encodings of no value of a kind.
func notOf(kind int) list { return slices.Concat(notValues(), otherKinds(kind)) }
