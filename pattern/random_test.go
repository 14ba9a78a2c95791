package pattern_test

import (
	"math/rand"
	"slices"
	"testing"

	"cspcheck/api"
	"cspcheck/pattern"
	"cspcheck/value"
)

// A generator makes random values, and patterns that they match or nearly match.
type generator struct{ *rand.Rand }

func newGenerator(seed int64) generator { return generator{rand.New(rand.NewSource(seed))} }

// values returns up to k values.
func (g generator) values(least, most, depth int) list {
	var l list
	for range least + g.Intn(most-least+1) {
		l = append(l, g.value(depth))
	}
	return l
}

func (g generator) value(depth int) api.Value {
	kinds := 9
	if depth == 0 {
		kinds = 3
	}
	switch g.Intn(kinds) {
	case 0:
		return n(int64(g.Intn(3)) - 1)
	case 1:
		return value.Bool(g.Intn(2) == 0)
	case 2:
		return dotOf(g.Intn(3))
	case 3:
		return tupleOf(g.values(2, 4, depth-1)...)
	case 4, 5:
		return seqOf(g.values(0, 5, depth-1)...)
	case 6:
		return setOf(g.values(0, 2, depth-1)...)
	case 7:
		return dotOf(g.Intn(3), g.values(0, 3, depth-1)...)
	}
	return value.Map(of(g.value(depth-1)), of(g.value(depth-1)))
}

// leaf returns a pattern of one node that matches a value, with its variables.
func (g generator) leaf(v api.Value) (tree, list) {
	if g.Intn(3) == 0 {
		return tree{op: api.PatWild}, nil
	}
	return tree{op: api.PatVar}, of(v)
}

// patterns returns patterns that match values, with all of their variables.
func (g generator) patterns(l list, depth int) ([]tree, list) {
	var all []tree
	var vars list
	for _, v := range l {
		p, more := g.pattern(v, depth)
		all, vars = append(all, p), append(vars, more...)
	}
	return all, vars
}

// pattern returns a pattern that matches a value, with its variables.
func (g generator) pattern(v api.Value, depth int) (tree, list) {
	if depth == 0 || g.Intn(5) == 0 {
		return g.leaf(v)
	}
	if g.Intn(8) == 0 {
		kids, vars := g.patterns(of(v, v), depth-1)
		return tree{op: api.PatBoth, kids: kids}, vars
	}
	parts := value.Parts(v)
	p := tree{}
	switch value.Kind(v) {
	case api.ValInt:
		return tree{op: api.PatInt, num: value.Number(v)}, nil
	case api.ValBool:
		return tree{op: api.PatBool, num: value.Number(v)}, nil
	case api.ValTuple:
		p.op = api.PatTuple
	case api.ValSeq:
		if g.Intn(2) == 0 {
			return g.cat(parts, depth)
		}
		p.op = api.PatSeq
	case api.ValSet:
		p.op = api.PatSet
	case api.ValDot:
		p.op, p.num = api.PatDot, value.Number(parts[0])
		parts = parts[1:]
	}
	if p.op == 0 || p.op == api.PatSet && len(parts) > 1 {
		return g.leaf(v)
	}
	kids, vars := g.patterns(parts, depth-1)
	p.kids = kids
	return p, vars
}

// cat returns a PatCat that matches the sequence of values.
func (g generator) cat(l list, depth int) (tree, list) {
	from := g.Intn(len(l) + 1)
	to := from + g.Intn(len(l)-from+1)
	before, vars := g.patterns(l[:from], depth-1)
	rest, more := g.leaf(seqOf(l[from:to]...))
	after, most := g.patterns(l[to:], depth-1)
	return tree{op: api.PatCat, num: int64(from), kids: slices.Concat(before, []tree{rest}, after)}, slices.Concat(vars, more, most)
}

// P12.2: values match the patterns that are made from them.
func TestRandomMatches(t *testing.T) {
	g := newGenerator(1)
	for range 20000 {
		v := g.value(4)
		p, vars := g.pattern(v, 5)
		wantValid(t, p.code(), names(), true)
		wantMatch(t, p.code(), v, vars...)
		if got := pattern.Vars(p.code()); got != len(vars) {
			t.Errorf("Vars(%s) = %d, want %d", shown(p.code()), got, len(vars))
		}
	}
}

// P12.2: patterns that are made from other values match as those of the second implementation.
func TestRandomMismatches(t *testing.T) {
	g := newGenerator(2)
	matches := 0
	for range 60000 {
		v := g.value(2)
		p, _ := g.pattern(g.value(2), 3)
		if g.Intn(10) == 0 {
			p = tree{op: api.PatPair, kids: []tree{p, p}}
		}
		if want, ok := p.match(v); ok {
			matches++
			wantMatch(t, p.code(), v, want...)
		} else {
			wantNoMatch(t, p.code(), v)
		}
	}
	if matches < 5000 || matches > 55000 {
		t.Errorf("%d values match", matches)
	}
}

// P12.3: the values of patterns are those of the second implementation, and match with the same values of the variables.
func TestRandomBuilds(t *testing.T) {
	g := newGenerator(3)
	built := 0
	for range 60000 {
		p, vars := g.pattern(g.value(3), 4)
		if g.Intn(2) == 0 {
			for i := range vars {
				vars[i] = g.value(2)
			}
		}
		if g.Intn(10) == 0 {
			vars = append(vars, n(1))
		}
		want, rest, ok := p.build(vars)
		if ok && len(rest) == 0 && !p.has(api.PatWild) && !p.has(api.PatBoth) {
			built++
			wantBuild(t, p.code(), want, vars...)
		} else {
			wantNoBuild(t, p.code(), vars...)
		}
	}
	if built < 5000 || built > 55000 {
		t.Errorf("%d values are built", built)
	}
}

// The Consequences: Match and Build are inverse to each other.
func TestConsequences(t *testing.T) {
	g := newGenerator(4)
	inverse := 0
	for range 60000 {
		v := g.value(3)
		p, _ := g.pattern(v, 4)
		l, ok := match(t, p.code(), v)
		if ok && !p.has(api.PatWild) && !p.has(api.PatBoth) {
			inverse++
			wantBuild(t, p.code(), v, l...)
		}
	}
	if inverse < 5000 {
		t.Errorf("%d values are built", inverse)
	}
}

// anyNode returns a node that is a node of a pattern or similar to one.
func (g generator) anyNode() api.Code {
	node := api.Code{Op: api.PatVar - 1 + g.Intn(13), Kids: g.Intn(4)}
	if g.Intn(3) == 0 {
		node.Int = int64(g.Intn(4)) - 1
	}
	if g.Intn(50) == 0 {
		node.Kids = int(g.Uint64())
	}
	if g.Intn(50) == 0 {
		node.Int = int64(g.Uint64())
	}
	return node
}

// isPattern reports whether a short list is a pattern, whatever the names of its dotted values are.
func isPattern(p code) bool {
	p = slices.Clone(p)
	for i := range p {
		if p[i].Op == api.PatDot {
			p[i].Int = 0
		}
	}
	return pattern.Valid(p, names())
}

// R1: all functions have a result for all lists, and they agree on which ones are patterns.
func TestRandomLists(t *testing.T) {
	g := newGenerator(5)
	patterns := 0
	for range 200000 {
		p := make(code, g.Intn(6))
		for i := range p {
			p[i] = g.anyNode()
		}
		_, matches := match(t, p, g.value(2))
		_, builds := build(t, p, slices.Repeat(of(seqOf()), pattern.Vars(p)))
		if isPattern(p) {
			patterns++
		} else if matches || builds || pattern.Irrefutable(p) {
			t.Errorf("%s is no pattern, but Match is %v, Build is %v", shown(p), matches, builds)
		}
	}
	if patterns < 2000 {
		t.Errorf("%d lists are patterns", patterns)
	}
}
