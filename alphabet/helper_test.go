package alphabet_test

import (
	"fmt"
	"math"
	"slices"
	"testing"

	"cspcheck/alphabet"
	"cspcheck/api"
)

const (
	first = api.First
	last  = api.First + api.MaxEvents - 1
)

// pairs returns the pairs of alternating events.
func pairs(events ...int) []api.Pair {
	var l []api.Pair
	for i := 0; i < len(events); i += 2 {
		l = append(l, api.Pair{From: events[i], To: events[i+1]})
	}
	return l
}

// above returns the pairs of alternating lower and higher events.
func above(events ...int) []api.Above {
	var l []api.Above
	for i := 0; i < len(events); i += 2 {
		l = append(l, api.Above{Low: events[i], High: events[i+1]})
	}
	return l
}

func events(l ...int) []int { return l }

// notVisible returns numbers of no visible event, some of which are next to one or have the last bits of one.
func notVisible() []int {
	return []int{api.Tau, api.Tick, -1, -first, last + 1, last + 2, math.MinInt, math.MinInt + first, math.MaxInt, first + math.MinInt32, first + 1<<32, first - 1<<32, first + 1<<16, first + api.MaxEvents, first - api.MaxEvents}
}

// shown returns a list as a short text.
func shown[T any](l []T) string {
	if len(l) > 20 {
		return fmt.Sprintf("%+v.. (%d elements)", l[:20], len(l))
	}
	return fmt.Sprintf("%+v", l)
}

// wantList requires a list of events or pairs.
func wantList[T comparable](t *testing.T, what string, got, want []T) {
	t.Helper()
	if !slices.Equal(got, want) {
		t.Errorf("%s is %s, want %s", what, shown(got), shown(want))
	}
}

func wantBool(t *testing.T, what string, got, want bool) {
	t.Helper()
	if got != want {
		t.Errorf("%s is %v", what, got)
	}
}

// wantSet requires a list of events that is an event set.
func wantSet(t *testing.T, what string, got, want []int) {
	t.Helper()
	wantList(t, what, got, want)
	wantBool(t, "ValidSet of "+what, alphabet.ValidSet(got), true)
}

// wantRelation requires a list of pairs that is a relation.
func wantRelation(t *testing.T, what string, got, want []api.Pair) {
	t.Helper()
	wantList(t, what, got, want)
	wantBool(t, "ValidRelation of "+what, alphabet.ValidRelation(got), true)
}

// wantClose requires an order from Close, which is then also its own result.
func wantClose(t *testing.T, l, want []api.Above) {
	t.Helper()
	got, err := alphabet.Close(l)
	if err != api.OK || !slices.Equal(got, want) {
		t.Errorf("Close(%s) is %s, error %d, want %s", shown(l), shown(got), err, shown(want))
		return
	}
	wantBool(t, fmt.Sprintf("ValidOrder(%s)", shown(got)), alphabet.ValidOrder(got), true)
	if again, err := alphabet.Close(got); err != api.OK || !slices.Equal(again, got) {
		t.Errorf("Close of the order %s is %s, error %d", shown(got), shown(again), err)
	}
}

// wantNoClose requires an error from Close for a list that is therefore no order.
func wantNoClose(t *testing.T, l []api.Above, want api.Errno) {
	t.Helper()
	got, err := alphabet.Close(l)
	if err != want || len(got) > 0 {
		t.Errorf("Close(%s) is %s, error %d, want error %d", shown(l), shown(got), err, want)
	}
	wantNoOrder(t, l)
}

// wantNoOrder requires that a list is not an order and therefore keeps all events.
func wantNoOrder(t *testing.T, l []api.Above) {
	t.Helper()
	wantBool(t, fmt.Sprintf("ValidOrder(%s)", shown(l)), alphabet.ValidOrder(l), false)
	all := events(5, 0, 1, 2, 3, 2, 4, -1, last, last+1)
	wantKeep(t, l, all, all)
	wantKeep(t, l, nil, nil)
}

func wantKeep(t *testing.T, l []api.Above, from, want []int) {
	t.Helper()
	if got := alphabet.Keep(l, from); !slices.Equal(got, want) {
		t.Errorf("Keep(%s, %s) is %s, want %s", shown(l), shown(from), shown(got), shown(want))
	}
}
