package alphabet_test

import (
	"fmt"
	"math/rand"
	"slices"
	"testing"

	"cspcheck/alphabet"
	"cspcheck/api"
)

// source makes random events, most of which are visible and among a few.
type source struct {
	*rand.Rand
	few []int
	// stray is one of how many numbers is that of no visible event, or 0 for none.
	stray int
}

func newSource(seed int64) *source {
	return &source{Rand: rand.New(rand.NewSource(seed))}
}

// turn chooses the events of the next lists anew.
func (s *source) turn() {
	s.stray = []int{0, 0, 4, 30}[s.Intn(4)]
	s.few = nil
	for range 1 + s.Intn(9) {
		s.few = append(s.few, first+s.Intn(api.MaxEvents), first+s.Intn(6))
	}
	s.few = append(s.few, first, last)[:1+s.Intn(len(s.few))]
}

func (s *source) event() int {
	if s.stray > 0 && s.Intn(s.stray) == 0 {
		return notVisible()[s.Intn(len(notVisible()))]
	}
	return s.few[s.Intn(len(s.few))]
}

func (s *source) events() []int {
	var l []int
	for range s.Intn(2 + s.Intn(20)) {
		l = append(l, s.event())
	}
	if s.Intn(3) == 0 {
		slices.Sort(l)
	}
	if s.Intn(3) == 0 {
		l = slices.Compact(l)
	}
	return l
}

func (s *source) pairs() []api.Pair {
	var l []api.Pair
	for range s.Intn(2 + s.Intn(20)) {
		l = append(l, api.Pair{From: s.event(), To: s.event()})
	}
	if s.Intn(2) == 0 {
		slices.SortFunc(l, byFrom)
	}
	if s.Intn(2) == 0 {
		l = slices.Compact(l)
	}
	return l
}

// above returns pairs, of which most are in the direction of the numbers in many lists, so that these have no cycle.
func (s *source) above() []api.Above {
	var l []api.Above
	ordered := s.Intn(4) > 0
	for range s.Intn(2 + s.Intn(12)) {
		low, high := s.event(), s.event()
		if ordered && low > high {
			low, high = high, low
		}
		if low == high && s.Intn(10) > 0 {
			continue
		}
		l = append(l, api.Above{Low: low, High: high})
	}
	switch s.Intn(4) {
	case 0:
		slices.SortFunc(l, byLow)
	case 1:
		slices.SortFunc(l, byLow)
		l = slices.Compact(l)
	case 2:
		if order, err := closed(l); err == api.OK {
			l = order
		}
	}
	// An order with one pair less is often none.
	if len(l) > 0 && s.Intn(4) == 0 {
		at := s.Intn(len(l))
		l = slices.Delete(l, at, at+1)
	}
	return l
}

func TestRandomSets(t *testing.T) {
	s := newSource(1)
	valid := 0
	for range 20000 {
		s.turn()
		a, b := s.events(), s.events()
		args := fmt.Sprintf("(%v, %v)", a, b)
		wantSet(t, "Set"+args, alphabet.Set(a), sorted(members(a), byNumber))
		wantSet(t, "Union"+args, alphabet.Union(a, b), chosen(a, b, func(inA, inB bool) bool { return inA || inB }))
		wantSet(t, "Inter"+args, alphabet.Inter(a, b), chosen(a, b, func(inA, inB bool) bool { return inA && inB }))
		wantSet(t, "Diff"+args, alphabet.Diff(a, b), chosen(a, b, func(inA, inB bool) bool { return inA && !inB }))
		isSet := slices.Equal(a, sorted(members(a), byNumber))
		wantBool(t, "ValidSet"+args, alphabet.ValidSet(a), isSet)
		e := s.event()
		wantBool(t, "Has"+args, alphabet.Has(b, e), slices.Contains(b, e))
		if isSet && len(a) > 1 {
			valid++
		}
	}
	wantMany(t, "event sets", valid)
}

func TestRandomRelations(t *testing.T) {
	s := newSource(2)
	valid := 0
	for range 10000 {
		s.turn()
		a, b := s.pairs(), s.pairs()
		args := fmt.Sprintf("(%v, %v)", a, b)
		wantRelation(t, "Relation"+args, alphabet.Relation(a), sorted(counted(a), byFrom))
		wantRelation(t, "Inverse"+args, alphabet.Inverse(a), inverse(a))
		wantRelation(t, "Compose"+args, alphabet.Compose(a, b), composed(a, b))
		e := s.event()
		wantList(t, fmt.Sprintf("Image(%v, %d)", a, e), alphabet.Image(a, e), imageOf(a, e))
		isRelation := slices.Equal(a, sorted(counted(a), byFrom))
		wantBool(t, "ValidRelation"+args, alphabet.ValidRelation(a), isRelation)
		if isRelation && len(a) > 1 {
			valid++
		}
	}
	wantMany(t, "relations", valid)
}

func TestRandomImagesOfCompositions(t *testing.T) {
	s := newSource(3)
	for range 5000 {
		s.turn()
		a, b := s.pairs(), s.pairs()
		for _, e := range append(slices.Clone(s.few), first+s.Intn(api.MaxEvents)) {
			var union []int
			for _, x := range alphabet.Image(a, e) {
				union = alphabet.Union(union, alphabet.Image(b, x))
			}
			wantSet(t, fmt.Sprintf("Image(Compose(%v, %v), %d)", a, b, e), alphabet.Image(alphabet.Compose(a, b), e), union)
		}
	}
}

func TestRandomOrders(t *testing.T) {
	s := newSource(4)
	orders, loops, invalid := 0, 0, 0
	for range 10000 {
		s.turn()
		l, from := s.above(), s.events()
		for range s.Intn(3) {
			from = slices.Insert(from, s.Intn(len(from)+1), s.Intn(2))
		}
		wantBool(t, fmt.Sprintf("ValidOrder(%v)", l), alphabet.ValidOrder(l), isOrder(l))
		wantKeep(t, l, from, keptOf(l, from))
		want, err := closed(l)
		switch err {
		case api.OK:
			wantClose(t, l, want)
			wantKeep(t, want, from, keptOf(want, from))
		case api.ErrLoop:
			wantNoClose(t, l, err)
			loops++
		default:
			wantNoClose(t, l, err)
			invalid++
		}
		if isOrder(l) && len(l) > 2 {
			orders++
		}
	}
	wantMany(t, "orders", orders)
	wantMany(t, "cycles", loops)
	wantMany(t, "pairs that are not visible", invalid)
}

// wantMany requires that a case has been tried often.
func wantMany(t *testing.T, what string, count int) {
	t.Helper()
	if count < 300 {
		t.Errorf("only %d times %s", count, what)
	}
}
