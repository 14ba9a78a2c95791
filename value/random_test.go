package value_test

import (
	"math/rand"
	"slices"
	"testing"

	"cspcheck/api"
	"cspcheck/value"
)

// generator makes trees with few different parts, so that equal and nearly equal ones are common.
type generator struct{ *rand.Rand }

func newGenerator(seed int64) generator { return generator{rand.New(rand.NewSource(seed))} }

func (g generator) number() int64 {
	return []int64{0, 1, 2, 3, -1, 255, 256, -256, 65535, 65536, 21, 22, 1 << 62, -1 << 63}[min(g.Intn(14), g.Intn(14))]
}

func (g generator) simple() tree {
	switch g.Intn(4) {
	case 0:
		return tree{kind: api.ValBool, num: int64(g.Intn(2))}
	case 1:
		return tree{kind: api.ValName, num: int64(min(g.Intn(4), g.Intn(4)))}
	}
	return tree{kind: api.ValInt, num: g.number()}
}

// tree returns a tree that usually is lawful.
func (g generator) tree(depth int) tree {
	if depth <= 1 || g.Intn(4) == 0 {
		return g.simple()
	}
	t := tree{kind: api.ValTuple + g.Intn(api.ValProc-api.ValTuple+1)}
	for range g.Intn(5) {
		t.parts = append(t.parts, g.tree(depth-1))
	}
	switch t.kind {
	case api.ValSet:
		slices.SortFunc(t.parts, compareTrees)
		t.parts = slices.CompactFunc(t.parts, func(a, b tree) bool { return compareTrees(a, b) == 0 })
	case api.ValMap:
		keys := slices.Clone(t.parts)
		slices.SortFunc(keys, compareTrees)
		keys = slices.CompactFunc(keys, func(a, b tree) bool { return compareTrees(a, b) == 0 })
		t.parts = nil
		for _, key := range keys {
			t.parts = append(t.parts, key, g.tree(depth-1))
		}
	case api.ValDot:
		t.parts = append([]tree{{kind: api.ValName, num: int64(g.Intn(3))}}, t.parts...)
	case api.ValFun, api.ValProc:
		t.parts = append([]tree{{kind: api.ValInt, num: int64(1 + g.Intn(3))}}, t.parts...)
	}
	return t
}

// changed returns a tree in which something is different, which need not be lawful.
func (g generator) changed(t tree) tree {
	if len(t.parts) == 0 || g.Intn(5) == 0 {
		return g.tree(2)
	}
	at := g.Intn(len(t.parts))
	parts := slices.Clone(t.parts)
	switch g.Intn(6) {
	case 0:
		parts = slices.Delete(parts, at, at+1)
	case 1:
		parts = slices.Insert(parts, at, g.tree(2))
	case 2:
		other := g.Intn(len(parts))
		parts[at], parts[other] = parts[other], parts[at]
	default:
		parts[at] = g.changed(parts[at])
	}
	return tree{kind: t.kind, parts: parts}
}

// damaged returns an encoding with another byte, one less or one more.
func (g generator) damaged(v api.Value) api.Value {
	bytes := []byte(v)
	at := g.Intn(len(bytes))
	switch g.Intn(4) {
	case 0:
		bytes = slices.Delete(bytes, at, at+1)
	case 1:
		bytes = slices.Insert(bytes, at, byte(g.Intn(4)))
	case 2:
		bytes[at] = byte(g.Intn(12))
	default:
		bytes[at] ^= 1
	}
	return api.Value(bytes)
}

// encoding returns an encoding that is valid, nearly valid or neither.
func (g generator) encoding() api.Value {
	t := g.tree(1 + g.Intn(4))
	for range g.Intn(3) {
		t = g.changed(t)
	}
	v := encode(t)
	if g.Intn(4) == 0 {
		v = g.damaged(v)
	}
	return v
}

func TestRandomValidity(t *testing.T) {
	g := newGenerator(1)
	valid := 0
	for range 60000 {
		v := g.encoding()
		decoded, want := decode(v)
		wantValid(t, "random", v, want)
		if !want {
			continue
		}
		valid++
		if len(decoded.parts) == 0 && decoded.kind != api.ValSeq && decoded.kind != api.ValSet && decoded.kind != api.ValMap {
			wantNumber(t, "random", v, decoded.kind, decoded.num)
			continue
		}
		var parts list
		for _, part := range decoded.parts {
			parts = append(parts, encode(part))
		}
		wantParts(t, "random", v, decoded.kind, parts)
	}
	if valid < 20000 || valid > 50000 {
		t.Errorf("%d of the encodings are valid", valid)
	}
}

func TestRandomOrder(t *testing.T) {
	g := newGenerator(2)
	seen := map[int]int{}
	for range 60000 {
		a := g.encoding()
		b := g.encoding()
		if g.Intn(2) == 0 {
			if decoded, ok := decode(a); ok {
				b = encode(g.changed(decoded))
			}
		}
		want := compareValues(a, b)
		if got := value.Compare(a, b); got != want {
			t.Fatalf("Compare(%s, %s) is %d, want %d", shown(a), shown(b), got, want)
		}
		seen[want]++
	}
	if seen[-1] < 10000 || seen[0] < 1000 || seen[1] < 10000 {
		t.Errorf("the results were %v", seen)
	}
}

func TestRandomSort(t *testing.T) {
	g := newGenerator(3)
	for range 3000 {
		var l list
		for range g.Intn(12) {
			l = append(l, g.encoding())
		}
		l = append(l, l[:len(l)/3]...)
		given := slices.Clone(l)
		want := slices.Clone(l)
		slices.SortFunc(want, compareValues)
		want = slices.Compact(want)
		if got := value.Sort(l); !slices.Equal(got, want) {
			t.Fatalf("Sort(%q) is %q, want %q", l, got, want)
		}
		if !slices.Equal(l, given) {
			t.Fatalf("Sort changed %q to %q", given, l)
		}
	}
}

func TestRandomText(t *testing.T) {
	g := newGenerator(4)
	names := []string{"a", "B", ""}
	for range 20000 {
		v := g.encoding()
		want := ""
		if decoded, ok := decode(v); ok {
			want = textOf(decoded, names)
		}
		wantText(t, v, want, names...)
	}
}

// remake returns the result of the function that makes values of the tree's kind.
func remake(t tree, parts list) api.Value {
	switch t.kind {
	case api.ValInt:
		return value.Int(t.num)
	case api.ValBool:
		return value.Bool(t.num == 1)
	case api.ValName:
		return value.Name(int(t.num))
	case api.ValTuple:
		return value.Tuple(parts)
	case api.ValSeq:
		return value.Seq(parts)
	case api.ValSet:
		return value.Set(parts)
	case api.ValMap:
		var keys, values list
		for i := 0; i < len(parts); i += 2 {
			keys, values = append(keys, parts[i]), append(values, parts[i+1])
		}
		return value.Map(keys, values)
	case api.ValDot:
		return value.Dot(int(t.parts[0].num), parts[1:])
	case api.ValFun:
		return value.Fun(int(t.parts[0].num), parts[1:])
	}
	return value.Proc(int(t.parts[0].num), parts[1:])
}

func TestRandomMakers(t *testing.T) {
	g := newGenerator(5)
	for range 20000 {
		made := g.tree(1 + g.Intn(4))
		want := encode(made)
		if _, ok := decode(want); !ok {
			want = ""
		}
		var parts list
		for _, part := range made.parts {
			parts = append(parts, encode(part))
		}
		if got := remake(made, parts); got != want {
			t.Fatalf("%v is %s, want %s", made, shown(got), shown(want))
		}
	}
}

func TestRandomSetsAndMapsInAnyOrder(t *testing.T) {
	g := newGenerator(6)
	for range 20000 {
		made := g.tree(3)
		if made.kind != api.ValSet && made.kind != api.ValMap {
			continue
		}
		want := encode(made)
		if _, ok := decode(want); !ok {
			want = ""
		}
		got := api.Value("")
		if made.kind == api.ValSet {
			var parts list
			for _, at := range g.Perm(2 * len(made.parts)) {
				parts = append(parts, encode(made.parts[at/2]))
			}
			got = value.Set(parts)
		} else {
			var keys, values list
			for _, at := range g.Perm(len(made.parts) / 2) {
				keys, values = append(keys, encode(made.parts[2*at])), append(values, encode(made.parts[2*at+1]))
			}
			got = value.Map(keys, values)
		}
		if got != want {
			t.Fatalf("%v is %s, want %s", made, shown(got), shown(want))
		}
	}
}
