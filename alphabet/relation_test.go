package alphabet_test

import (
	"fmt"
	"slices"
	"testing"

	"cspcheck/alphabet"
	"cspcheck/api"
)

func TestRelation(t *testing.T) {
	for _, row := range []struct{ l, want []api.Pair }{
		{nil, nil},
		{pairs(2, 3), pairs(2, 3)},
		{pairs(2, 2), pairs(2, 2)},
		{pairs(2, 3, 3, 2), pairs(2, 3, 3, 2)},
		{pairs(3, 2, 2, 3), pairs(2, 3, 3, 2)},
		{pairs(2, 9, 2, 3, 2, 5), pairs(2, 3, 2, 5, 2, 9)},
		{pairs(2, 5, 2, 3, 2, 5, 2, 3), pairs(2, 3, 2, 5)},
		{pairs(last, first, first, last, last, last), pairs(first, last, last, first, last, last)},
		{pairs(0, 2, 2, 0, 1, 2, 2, 1, 0, 1, 4, 2), pairs(4, 2)},
		{pairs(4, 2, 5, last+1, last+1, 5, -1, 3, 3, -1), pairs(4, 2)},
	} {
		wantRelation(t, fmt.Sprintf("Relation(%v)", row.l), alphabet.Relation(row.l), row.want)
		wantBool(t, fmt.Sprintf("ValidRelation(%v)", row.l), alphabet.ValidRelation(row.l), slices.Equal(row.l, row.want))
	}
}

func TestValidRelation(t *testing.T) {
	for _, l := range [][]api.Pair{nil, {}, pairs(first, last), pairs(last, first), pairs(2, 9, 3, 2), pairs(2, 3, 2, 4, 3, 3), pairs(5, 5)} {
		wantBool(t, fmt.Sprintf("ValidRelation(%v)", l), alphabet.ValidRelation(l), true)
	}
	for _, l := range [][]api.Pair{pairs(3, 2, 2, 9), pairs(2, 4, 2, 3), pairs(2, 3, 2, 3), pairs(2, 3, 2, 4, 2, 4), pairs(2, 3, 4, 5, 3, 9), pairs(2, 3, 2, 4, 2, 3)} {
		wantBool(t, fmt.Sprintf("ValidRelation(%v)", l), alphabet.ValidRelation(l), false)
	}
	for _, e := range notVisible() {
		for _, l := range [][]api.Pair{pairs(e, 5), pairs(5, e), pairs(e, e), pairs(4, 5, 5, e), pairs(e, 5, 6, 5), pairs(4, 5, e, 5)} {
			wantBool(t, fmt.Sprintf("ValidRelation(%v)", l), alphabet.ValidRelation(l), false)
		}
	}
}

func TestPairsOfOtherEventsDoNotCount(t *testing.T) {
	for _, e := range notVisible() {
		l := pairs(5, e, e, 5, 5, 7, e, e)
		wantRelation(t, "Relation", alphabet.Relation(l), pairs(5, 7))
		wantRelation(t, "Inverse", alphabet.Inverse(l), pairs(7, 5))
		wantSet(t, "Image", alphabet.Image(l, 5), events(7))
		wantList(t, "Image of an event that is not visible", alphabet.Image(l, e), events(e))
		// A pair that does not count leaves the event as it is.
		wantSet(t, "Image", alphabet.Image(pairs(5, e), 5), events(5))
		wantRelation(t, "Compose", alphabet.Compose(l, pairs(7, 9, 7, e, e, 9)), pairs(5, 9, 7, 9))
		wantRelation(t, "Compose", alphabet.Compose(pairs(5, e), pairs(5, 6)), pairs(5, 6))
		wantRelation(t, "Compose", alphabet.Compose(pairs(5, 6), pairs(6, e, e, 7)), pairs(5, 6))
		wantRelation(t, "Compose", alphabet.Compose(pairs(e, 6), pairs(6, 7)), pairs(6, 7))
	}
}

func TestImage(t *testing.T) {
	l := pairs(9, 4, 2, 5, 3, 3, 2, 3, 2, 5, 9, 2, 2, 2)
	for _, row := range []struct {
		e    int
		want []int
	}{
		{2, events(2, 3, 5)}, {3, events(3)}, {9, events(2, 4)},
		{4, events(4)}, {5, events(5)}, {last, events(last)}, {first + 1<<6, events(first + 1<<6)},
	} {
		wantSet(t, fmt.Sprintf("Image of %d", row.e), alphabet.Image(l, row.e), row.want)
	}
	wantSet(t, "Image without pairs", alphabet.Image(nil, 2), events(2))
	for _, e := range notVisible() {
		wantList(t, "Image of an event that is not visible", alphabet.Image(nil, e), events(e))
		wantList(t, "Image of an event that is not visible", alphabet.Image(l, e), events(e))
	}
}

func TestCompose(t *testing.T) {
	for _, row := range []struct{ a, b, want []api.Pair }{
		{nil, nil, nil},
		{pairs(2, 3), nil, pairs(2, 3)},
		{nil, pairs(2, 3), pairs(2, 3)},
		{pairs(2, 3), pairs(3, 4), pairs(2, 4, 3, 4)},
		// An event that the first renaming replaces is not one of the second one.
		{pairs(2, 3), pairs(2, 4), pairs(2, 3)},
		{pairs(2, 3), pairs(3, 2), pairs(2, 2, 3, 2)},
		{pairs(2, 3, 3, 2), pairs(2, 3, 3, 2), pairs(2, 2, 3, 3)},
		{pairs(2, 2), pairs(2, 4), pairs(2, 4)},
		{pairs(2, 3, 2, 4), pairs(3, 7, 3, 6, 5, 2), pairs(2, 4, 2, 6, 2, 7, 3, 6, 3, 7, 5, 2)},
		{pairs(2, 4, 2, 3, 2, 4), pairs(4, 5, 3, 5, 3, 5), pairs(2, 5, 3, 5, 4, 5)},
		{pairs(first, last), pairs(last, first), pairs(first, first, last, first)},
	} {
		wantRelation(t, fmt.Sprintf("Compose(%v, %v)", row.a, row.b), alphabet.Compose(row.a, row.b), row.want)
	}
}

func TestInverse(t *testing.T) {
	for _, row := range []struct{ l, want []api.Pair }{
		{nil, nil},
		{pairs(2, 3), pairs(3, 2)},
		{pairs(2, 2), pairs(2, 2)},
		{pairs(2, 5, 2, 3, 4, 3), pairs(3, 2, 3, 4, 5, 2)},
		{pairs(4, 3, 2, 3, 4, 3), pairs(3, 2, 3, 4)},
		{pairs(first, last), pairs(last, first)},
		{pairs(0, 3, 2, 1, last+1, 3, 3, last+1), nil},
	} {
		wantRelation(t, fmt.Sprintf("Inverse(%v)", row.l), alphabet.Inverse(row.l), row.want)
	}
}

func TestFirstExample(t *testing.T) {
	l := pairs(2, 3, 2, 5)
	wantSet(t, "Image", alphabet.Image(l, 2), events(3, 5))
	wantSet(t, "Image", alphabet.Image(l, 4), events(4))
}
