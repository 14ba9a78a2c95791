package alphabet

import (
	"cmp"

	"cspcheck/api"
)

// ValidRelation reports whether l is a relation: pairs of visible events, ascending.
func ValidRelation(l []api.Pair) bool {
	for _, p := range l {
		if !visible(p.From) || !visible(p.To) {
			return false
		}
	}
	return ascending(l, func(p, q api.Pair) int {
		return cmp.Or(cmp.Compare(p.From, q.From), cmp.Compare(p.To, q.To))
	})
}

// Relation returns the pairs of visible events of l, ascending.
func Relation(l []api.Pair) []api.Pair {
	return related(l).relation()
}

// Image returns the events that the event e becomes when it is renamed by l.
func Image(l []api.Pair, e int) []int {
	var to []int
	for _, p := range l {
		if p.From == e {
			to = append(to, p.To)
		}
	}
	image := Set(to)
	if !visible(e) || len(image) == 0 {
		return []int{e}
	}
	return image
}

// Compose returns the relation of a renaming by a followed by a renaming by b.
func Compose(a, b []api.Pair) []api.Pair {
	first, second := related(a), related(b)
	composed := &table{}
	for from, to := range first {
		if to == nil {
			composed[from] = second[from]
		} else {
			composed[from] = second.renamed(to)
		}
	}
	return composed.relation()
}

// Inverse returns the relation of the pairs of l in the other direction.
func Inverse(l []api.Pair) []api.Pair {
	t := &table{}
	for _, p := range l {
		t.add(p.To, p.From)
	}
	return t.relation()
}

// related returns the table of the pairs of visible events of l.
func related(l []api.Pair) *table {
	t := &table{}
	for _, p := range l {
		t.add(p.From, p.To)
	}
	return t
}

// relation returns the pairs of a table as a relation.
func (t *table) relation() []api.Pair {
	var l []api.Pair
	for from, to := range t.pairs() {
		l = append(l, api.Pair{From: from, To: to})
	}
	return l
}
