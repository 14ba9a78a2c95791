package dataspace_test

import (
	"slices"
	"testing"

	"cspcheck/api"
	"cspcheck/dataspace"
	"cspcheck/value"
)

func TestEvents(t *testing.T) {
	wantEvents(t, "of nothing", nil)
	wantEvents(t, "of constructors", infos{con("A", 0), con("B", 1, unbounded)})
	wantEvents(t, "of c", infos{channel("c", bit(), flag())}, "c.0.false", "c.0.true", "c.1.false", "c.1.true")
	wantEvents(t, "of the sample", sample(), "c.0.false", "c.0.true", "c.1.false", "c.1.true", "d", "e.-1", "e.7", "e.<>")
	wantEvents(t, "of an empty domain", infos{channel("a", set()), channel("b", bit(), set()), channel("c")}, "c")
	wantEvents(t, "of channels in the order of their numbers", infos{channel("z", set(n(3))), con("A", 0), channel("a", set(n(-1), n(1)))}, "z.3", "a.-1", "a.1")
	wantEvents(t, "of three fields", infos{channel("a", set(n(1), yes), set(dot(0, n(1))), set(value.Tuple(of(n(1), n(2))), no))},
		"a.1.a.1.false", "a.1.a.1.(1, 2)", "a.true.a.1.false", "a.true.a.1.(1, 2)")
}

func TestEventsAreAllCompleteValues(t *testing.T) {
	l := infos{con("A", 0, bit()), channel("a", set(upTo(7)...), flag(), set(n(-3), n(300), seq())), channel("b"), channel("c", set(otherKinds(0)...))}
	events, err := dataspace.Events(l)
	want := 7*2*3 + 1 + len(value.Sort(otherKinds(0)))
	if err != api.OK || len(events) != want {
		t.Fatalf("there are %d events, error %d, want %d", len(events), err, want)
	}
	for i, v := range events {
		if !value.Valid(v) || !dataspace.Complete(l, v) || value.Number(value.Parts(v)[0]) == 0 {
			t.Errorf("event %d is %s", i, shown(v, nil))
		}
		if i > 0 && value.Compare(events[i-1], v) >= 0 {
			t.Errorf("event %d is not after the one before it", i)
		}
	}
}

func TestEventsOfUnboundedChannels(t *testing.T) {
	many := set(upTo(5000)...)
	for _, l := range []infos{
		{channel("a", unbounded)}, {channel("a", bit(), unbounded)}, {channel("a", set(), unbounded)}, {channel("a", unbounded, set())},
		{channel("b"), channel("a", unbounded)}, {channel("b", many), channel("a", unbounded)}, {channel("a", unbounded), channel("b", many)}, {channel("a", many, many, unbounded)},
		{channel("b", set(sized(70000, true)), set(sized(70000, true))), channel("a", unbounded)},
	} {
		wantNoEvents(t, "an unbounded channel", l, api.ErrUnbounded)
	}
}

func TestMostEvents(t *testing.T) {
	wide, more := set(upTo(32)...), set(upTo(33)...)
	for _, l := range []infos{
		{channel("a", set(upTo(1024)...))}, {channel("a", wide, wide)}, {channel("a", slices.Repeat(of(bit()), 8)...), channel("b", slices.Repeat(of(bit()), 8)...), channel("c", slices.Repeat(of(bit()), 8)...), channel("d", set(upTo(256)...))},
		slices.Repeat(infos{channel("a"), con("A", 0)}, 1024), {channel("a", set(upTo(1023)...)), channel("b", set()), channel("c")},
	} {
		if events, err := dataspace.Events(l); err != api.OK || len(events) != api.MaxEvents {
			t.Errorf("there are %d events, error %d", len(events), err)
		}
	}
	for _, l := range []infos{
		{channel("a", set(upTo(1025)...))}, {channel("a", wide, more)}, {channel("a", set(upTo(1024)...)), channel("b")}, {channel("b"), channel("a", wide, wide)},
		slices.Repeat(infos{channel("a")}, 1025), slices.Repeat(infos{channel("a")}, 65536), {channel("a", set(upTo(5000)...))},
		{channel("a", slices.Repeat(of(set(upTo(256)...)), 8)...)}, {channel("a", slices.Repeat(of(wide), 8)...)},
	} {
		wantNoEvents(t, "too many events", l, api.ErrOverflow)
	}
}

func TestLongestEvents(t *testing.T) {
	// The header of an event and its name have 6 bytes.
	half, rest := sized(60001, true), sized(api.MaxValue-6-60001, true)
	longer := sized(api.MaxValue-6-60001+1, true)
	l := infos{channel("a", set(half), set(rest)), channel("b", set(rest), set(half))}
	events, err := dataspace.Events(l)
	if want := of(dot(0, half, rest), dot(1, rest, half)); err != api.OK || !slices.Equal(events, want) || len(events[0]) != api.MaxValue {
		t.Errorf("there are %d events, error %d", len(events), err)
	}
	wantNoEvents(t, "an event with one byte more", infos{channel("a", set(half), set(longer))}, api.ErrOverflow)
	wantNoEvents(t, "an event with one byte more after others", infos{channel("b"), channel("a", set(n(1), half), set(no, longer))}, api.ErrOverflow)
	wantEvents(t, "of an empty domain among long ones", infos{channel("a", set(half), set(longer), set())})
	deep := nested(api.MaxValueNest-2, n(1))
	events, err = dataspace.Events(infos{channel("a", set(deep))})
	if err != api.OK || !slices.Equal(events, of(dot(0, deep))) || !value.Valid(events[0]) {
		t.Errorf("the deepest event: %d events, error %d", len(events), err)
	}
}

func TestEventsOfTheLastChannel(t *testing.T) {
	l := append(slices.Repeat(infos{con("A", 0)}, 65535), channel("a", bit()))
	events, err := dataspace.Events(l)
	if want := of(dot(65535, n(0)), dot(65535, n(1))); err != api.OK || !slices.Equal(events, want) {
		t.Errorf("there are %d events, error %d", len(events), err)
	}
	wantNoNext(t, "the last channel", l, events[1], true)
	wantNext(t, "the last channel", l, dot(65535), bit())
}

func TestEventsAreNew(t *testing.T) {
	l := sample()
	events, _ := dataspace.Events(l)
	clear(events)
	wantEvents(t, "of the sample", l, "c.0.false", "c.0.true", "c.1.false", "c.1.true", "d", "e.-1", "e.7", "e.<>")
}
