package pattern_test

import (
	"slices"
	"testing"

	"cspcheck/api"
	"cspcheck/pattern"
	"cspcheck/value"
)

// A tree is a pattern with its children. The functions on trees are a second implementation of the layer, which follows the rows of the chapter's table.
type tree struct {
	op   int
	num  int64
	kids []tree
}

func (p tree) code() code {
	l := code{{Op: p.op, Int: p.num, Kids: len(p.kids)}}
	for _, kid := range p.kids {
		l = append(l, kid.code()...)
	}
	return l
}

// has reports whether an operator occurs in a pattern.
func (p tree) has(op int) bool {
	return p.op == op || slices.ContainsFunc(p.kids, func(kid tree) bool { return kid.has(op) })
}

// all matches patterns with as many values.
func all(patterns []tree, l list) (list, bool) {
	if len(patterns) != len(l) {
		return nil, false
	}
	var vars list
	for i, p := range patterns {
		more, ok := p.match(l[i])
		if !ok {
			return nil, false
		}
		vars = append(vars, more...)
	}
	return vars, true
}

// match returns the values of the variables.
func (p tree) match(v api.Value) (list, bool) {
	parts, kind := value.Parts(v), value.Kind(v)
	switch p.op {
	case api.PatVar:
		return of(v), true
	case api.PatWild:
		return nil, true
	case api.PatInt:
		return nil, kind == api.ValInt && value.Number(v) == p.num
	case api.PatBool:
		return nil, kind == api.ValBool && value.Number(v) == p.num
	case api.PatTuple, api.PatSeq, api.PatSet:
		if kind != map[int]int{api.PatTuple: api.ValTuple, api.PatSeq: api.ValSeq, api.PatSet: api.ValSet}[p.op] {
			return nil, false
		}
		return all(p.kids, parts)
	case api.PatCat:
		if kind != api.ValSeq {
			return nil, false
		}
		// All places at which the rest could begin and end are tried.
		for from := range len(parts) + 1 {
			for to := from; to <= len(parts); to++ {
				if from == int(p.num) && len(parts)-to == len(p.kids)-from-1 {
					return all(p.kids, slices.Concat(parts[:from], of(seqOf(parts[from:to]...)), parts[to:]))
				}
			}
		}
	case api.PatDot:
		if kind == api.ValDot && value.Number(parts[0]) == p.num {
			return all(p.kids, parts[1:])
		}
	case api.PatBoth:
		return all(p.kids, of(v, v))
	}
	return nil, false
}

// build returns the value of a pattern and the values that are left, or false.
func (p tree) build(l list) (api.Value, list, bool) {
	if p.op == api.PatVar {
		if len(l) == 0 {
			return "", nil, false
		}
		return l[0], l[1:], value.Valid(l[0])
	}
	var parts list
	for i, kid := range p.kids {
		v, rest, ok := kid.build(l)
		if !ok {
			return "", nil, false
		}
		l = rest
		if p.op == api.PatCat && i == int(p.num) {
			if value.Kind(v) != api.ValSeq {
				return "", nil, false
			}
			parts = append(parts, value.Parts(v)...)
		} else {
			parts = append(parts, v)
		}
	}
	var v api.Value
	switch p.op {
	case api.PatInt:
		v = n(p.num)
	case api.PatBool:
		v = value.Bool(p.num != 0)
	case api.PatTuple:
		v = tupleOf(parts...)
	case api.PatSeq, api.PatCat:
		v = seqOf(parts...)
	case api.PatSet:
		v = setOf(parts...)
	case api.PatDot:
		v = dotOf(int(p.num), parts...)
	}
	return v, l, v != ""
}

// rows returns the nodes of the test of all short lists, some of which are no nodes of a pattern.
func rows() code {
	l := code{{Op: api.PatVar}, {Op: api.PatVar, Int: 1}, {Op: api.PatWild}, {Op: api.PatInt, Int: 7}, {Op: api.PatInt, Kids: 1}, {Op: api.PatBool, Int: 1}}
	for kids := range 4 {
		for _, op := range []int{api.PatTuple, api.PatSeq, api.PatSet, api.PatDot, api.PatBoth} {
			l = append(l, api.Code{Op: op, Kids: kids})
		}
		l = append(l, api.Code{Op: api.PatCat, Kids: kids}, api.Code{Op: api.PatCat, Int: 1, Kids: kids})
	}
	return l
}

// shapes returns all patterns of k nodes that are in rows.
func shapes(k int, memory map[int][]code) []code {
	if l, known := memory[k]; known {
		return l
	}
	var l []code
	if k == 1 {
		l = []code{x(), wild(), integer(7), boolean(1), seq(), set(), dot(0)}
	}
	for kids := 1; kids < min(k, 4); kids++ {
		for _, children := range forests(kids, k-1, memory) {
			l = append(l, node(api.PatSeq, 0, children...), node(api.PatDot, 0, children...))
			if kids >= 2 {
				l = append(l, node(api.PatTuple, 0, children...))
			}
			if kids == 2 {
				l = append(l, node(api.PatBoth, 0, children...))
			}
			if kids == 1 {
				l = append(l, node(api.PatSet, 0, children...))
			}
			for before := range min(kids, 2) {
				if rest := children[before]; len(rest) == 1 && (rest[0].Op == api.PatVar || rest[0].Op == api.PatWild) {
					l = append(l, node(api.PatCat, int64(before), children...))
				}
			}
		}
	}
	memory[k] = l
	return l
}

// forests returns the lists of patterns with nodes in all.
func forests(patterns, nodes int, memory map[int][]code) [][]code {
	if patterns == 0 {
		if nodes == 0 {
			return [][]code{nil}
		}
		return nil
	}
	var all [][]code
	for k := 1; k <= nodes-patterns+1; k++ {
		for _, rest := range forests(patterns-1, nodes-k, memory) {
			for _, p := range shapes(k, memory) {
				all = append(all, append([]code{p}, rest...))
			}
		}
	}
	return all
}

// lists calls a function with all lists of k nodes of rows.
func lists(k int, visit func(p code)) {
	p, nodes := make(code, k), rows()
	var fill func(i int)
	fill = func(i int) {
		if i == k {
			visit(p)
			return
		}
		for _, node := range nodes {
			p[i] = node
			fill(i + 1)
		}
	}
	fill(0)
}

// P12.1: of all short lists, exactly the patterns are valid.
func TestAllShortLists(t *testing.T) {
	memory := map[int][]code{}
	for k := 1; k <= 4; k++ {
		patterns := map[[4]api.Code]bool{}
		for _, p := range shapes(k, memory) {
			var key [4]api.Code
			copy(key[:], p)
			patterns[key] = true
		}
		valid := 0
		lists(k, func(p code) {
			var key [4]api.Code
			copy(key[:], p)
			got := pattern.Valid(p, names())
			if got != patterns[key] {
				t.Fatalf("Valid(%s) = %v", shown(p), got)
			}
			if got {
				valid++
			}
		})
		if valid != len(patterns) || valid == 0 {
			t.Errorf("%d lists of %d nodes are valid, want %d", valid, k, len(patterns))
		}
	}
}
