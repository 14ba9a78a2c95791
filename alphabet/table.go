package alphabet

import (
	"iter"
	"math/bits"

	"cspcheck/api"
)

const wordBits = 64

// row is a set of visible events, each a bit. A list may have a pair for each two events, which is too many to join each pair with each one that follows it; rows are joined a word at a time.
type row [api.MaxEvents / wordBits]uint64

// place returns the word and the bit of a visible event.
func place(e int) (word int, bit uint64) {
	at := e - api.First
	return at / wordBits, 1 << (at % wordBits)
}

func (r *row) add(e int) {
	word, bit := place(e)
	r[word] |= bit
}

func (r *row) has(e int) bool {
	word, bit := place(e)
	return r[word]&bit != 0
}

// join adds the events of another row.
func (r *row) join(other *row) {
	for i, word := range other {
		r[i] |= word
	}
}

// within reports whether another row has all events of r.
func (r *row) within(other *row) bool {
	for i, word := range r {
		if word&^other[i] != 0 {
			return false
		}
	}
	return true
}

// events goes through the events of a row, ascending.
func (r *row) events() iter.Seq[int] {
	return func(yield func(e int) bool) {
		for i, word := range r {
			for ; word != 0; word &= word - 1 {
				if !yield(api.First + i*wordBits + bits.TrailingZeros64(word)) {
					return
				}
			}
		}
	}
}

// table is a set of pairs of visible events: element i has the events that follow the event First + i in a pair, or is nil if there are none.
type table [api.MaxEvents]*row

// row returns the events that follow a visible event, or nil if there are none.
func (t *table) row(e int) *row {
	return t[e-api.First]
}

// add adds a pair if both of its events are visible.
func (t *table) add(from, to int) {
	if !visible(from) || !visible(to) {
		return
	}
	if t.row(from) == nil {
		t[from-api.First] = &row{}
	}
	t.row(from).add(to)
}

// pairs goes through the pairs of a table, ascending.
func (t *table) pairs() iter.Seq2[int, int] {
	return func(yield func(from, to int) bool) {
		for i, r := range t {
			if r == nil {
				continue
			}
			for to := range r.events() {
				if !yield(api.First+i, to) {
					return
				}
			}
		}
	}
}

// renamed returns the events that the events of a row become when each one that has a row in the table is replaced by that row.
func (t *table) renamed(r *row) *row {
	image := &row{}
	for e := range r.events() {
		if to := t.row(e); to != nil {
			image.join(to)
		} else {
			image.add(e)
		}
	}
	return image
}

// transitive reports whether what follows a follower of an event follows the event itself.
func (t *table) transitive() bool {
	for from, to := range t.pairs() {
		if next := t.row(to); next != nil && !next.within(t.row(from)) {
			return false
		}
	}
	return true
}

// close adds the pairs that make a table transitive: for one event after the other those of the ways through it, as Warshall's method does.
func (t *table) close() {
	for i, next := range t {
		if next == nil {
			continue
		}
		for _, r := range t {
			if r != nil && r.has(api.First+i) {
				r.join(next)
			}
		}
	}
}
