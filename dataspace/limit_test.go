package dataspace_test

import (
	"slices"
	"testing"

	"cspcheck/api"
	"cspcheck/dataspace"
	"cspcheck/value"
)

// names returns the names with the numbers from 0 to k - 1 as values, which are so short that MaxSet values with several of them are not too long.
func names(k int) list {
	var l list
	for i := range k {
		l = append(l, value.Name(i))
	}
	return l
}

// A choice is a list of domains with the number of lists that have one element of each.
type choice struct {
	domains list
	count   int
}

// few returns choices of at most MaxSet lists.
func few() []choice {
	wide, four, pair := set(names(64)...), set(names(4)...), flag()
	long := set(sized(70000, true))
	return []choice{
		{of(set(names(api.MaxSet)...)), api.MaxSet}, {of(wide, wide), api.MaxSet}, {of(wide, set(n(9)), wide), api.MaxSet}, {of(four, four, four, four, four, four), api.MaxSet},
		{of(wide, pair, pair, pair, pair, pair, pair), api.MaxSet}, {of(pair, pair, wide, set(names(16)...)), api.MaxSet},
		{of(wide, wide, pair, set()), 0}, {of(set(), set(names(5000)...)), 0}, {of(long, long, set()), 0},
	}
}

// many returns domains with more than MaxSet choices, or with ones that are too long or too deep for a set of them.
func many() []list {
	wide, four, pair := set(names(64)...), set(names(4)...), flag()
	long := set(sized(70000, true))
	return []list{
		of(set(names(api.MaxSet + 1)...)), of(wide, set(names(65)...)), of(wide, wide, pair), of(four, four, four, four, four, four, pair),
		// The numbers of these choices are divisible by 2^32 or 2^64, which must not hide that they are many.
		slices.Repeat(of(set(names(16)...)), 8), slices.Repeat(of(set(names(256)...)), 8), slices.Repeat(of(set(names(api.MaxSet)...)), 8),
		of(long, long), of(set(sized(1000, true)), set(names(140)...)), of(set(nested(api.MaxValueNest-2, n(1)))),
	}
}

func TestMostValues(t *testing.T) {
	for _, c := range few() {
		l := infos{con("A", 0, c.domains...), con("B", 1, bit()), con("C", 0, bit(), set())}
		wantSize(t, "Values", c.count)(dataspace.Values(l, 0))
		wantSize(t, "Extensions", c.count)(dataspace.Extensions(l, dot(0)))
		wantSize(t, "Productions", c.count)(dataspace.Productions(l, set(dot(0), dot(2))))
	}
	for _, domains := range many() {
		l := infos{con("B", 0, bit()), con("A", 1, domains...)}
		wantError(t, "Values", api.ErrOverflow)(dataspace.Values(l, 1))
		wantError(t, "Extensions", api.ErrOverflow)(dataspace.Extensions(l, dot(1)))
		wantError(t, "Productions", api.ErrOverflow)(dataspace.Productions(l, set(dot(0), dot(1))))
	}
}

func TestMostValuesOfSeveralConstructors(t *testing.T) {
	most, half := set(upTo(api.MaxSet-1)...), set(upTo(api.MaxSet/2)...)
	for _, l := range []infos{{con("A", 0, most), con("B", 0)}, {con("A", 0, half), con("B", 0, half)}, slices.Repeat(infos{con("A", 0), con("B", 1)}, api.MaxSet)} {
		wantSize(t, "Values", api.MaxSet)(dataspace.Values(l, 0))
		wantError(t, "Values with one more", api.ErrOverflow)(dataspace.Values(append(l, con("C", 0)), 0))
		wantError(t, "Values with one more before", api.ErrOverflow)(dataspace.Values(append(infos{con("C", 0)}, l...), 0))
		wantSize(t, "Values with an empty domain more", api.MaxSet)(dataspace.Values(append(l, con("C", 0, set())), 0))
	}
	wantError(t, "Values of many constructors", api.ErrOverflow)(dataspace.Values(slices.Repeat(infos{con("A", 0)}, 65536), 0))
}

func TestMostProductions(t *testing.T) {
	wide := set(upTo(64)...)
	l := infos{channel("a", wide, wide), channel("b"), channel("c", set(upTo(5000)...)), channel("d", set())}
	var fields, most list
	for i := range int64(64) {
		fields = append(fields, dot(0, n(i)))
	}
	wantSize(t, "of fields", api.MaxSet)(dataspace.Productions(l, value.Set(fields)))
	wantSize(t, "of fields and what they extend", api.MaxSet)(dataspace.Productions(l, value.Set(append(fields, dot(0)))))
	wantSize(t, "of fields and one event", api.MaxSet)(dataspace.Productions(l, value.Set(append(fields[1:], dot(0, n(1), n(1)), dot(0, n(63), n(1)), dot(0, n(0))))))
	wantError(t, "of fields and another channel", api.ErrOverflow)(dataspace.Productions(l, value.Set(append(fields, dot(1)))))
	wantSize(t, "of fields and an empty domain", api.MaxSet)(dataspace.Productions(l, value.Set(append(fields, dot(3)))))
	for i := range int64(api.MaxSet) {
		most = append(most, dot(2, n(i)))
	}
	wantValue(t, "of events", value.Set(most))(dataspace.Productions(l, value.Set(most)))
	wantError(t, "of one event more", api.ErrOverflow)(dataspace.Productions(l, value.Set(append(most, dot(2, n(api.MaxSet))))))
}

func TestLongestSets(t *testing.T) {
	// The set has a header of 3 bytes, and each of the two dotted values has 6 bytes before its field.
	half, rest := sized(60001, true), sized(api.MaxValue-3-2*6-60001, true)
	longer := sized(api.MaxValue-3-2*6-60001+1, true)
	l := infos{con("A", 0, set(half)), con("B", 0, set(rest)), con("A", 1, set(half)), con("B", 1, set(longer))}
	wantValue(t, "Values", set(dot(0, half), dot(1, rest)))(dataspace.Values(l, 0))
	wantError(t, "Values with one byte more", api.ErrOverflow)(dataspace.Values(l, 1))
	wantValue(t, "Productions", set(dot(0, half), dot(1, rest)))(dataspace.Productions(l, set(dot(0), dot(1))))
	wantError(t, "Productions with one byte more", api.ErrOverflow)(dataspace.Productions(l, set(dot(0), dot(3))))
	one, more := sized(api.MaxValue-3-3, true), sized(api.MaxValue-3-2, true)
	wantValue(t, "Extensions", set(seq(one)))(dataspace.Extensions(infos{con("A", 0, set(one))}, dot(0)))
	wantError(t, "Extensions with one byte more", api.ErrOverflow)(dataspace.Extensions(infos{con("A", 0, set(more))}, dot(0)))
	wantValue(t, "Extensions after a long field", set(seq(n(0)), seq(n(1))))(dataspace.Extensions(infos{con("A", 0, set(half), bit())}, dot(0, half)))
	wantError(t, "Productions of a long field", api.ErrOverflow)(dataspace.Productions(infos{con("A", 0, set(half), set(upTo(3)...))}, set(dot(0, half))))
}

func TestDeepestSets(t *testing.T) {
	inner := nested(api.MaxValueNest-3, n(1))
	l := infos{con("A", 0, set(inner)), con("B", 1, set(seq(inner)))}
	wantValue(t, "Values", set(dot(0, inner)))(dataspace.Values(l, 0))
	wantError(t, "Values that are too deep", api.ErrOverflow)(dataspace.Values(l, 1))
	wantValue(t, "Extensions", set(seq(inner)))(dataspace.Extensions(l, dot(0)))
	wantError(t, "Extensions that are too deep", api.ErrOverflow)(dataspace.Extensions(l, dot(1)))
	wantValue(t, "Extensions of a deep field", set(seq()))(dataspace.Extensions(l, dot(1, seq(inner))))
	wantValue(t, "Productions", set(dot(0, inner)))(dataspace.Productions(l, set(dot(0))))
	wantError(t, "Productions that are too deep", api.ErrOverflow)(dataspace.Productions(l, set(dot(0), dot(1))))
}

func TestManyElementsOfLongDomainsCostLittle(t *testing.T) {
	elements := names(43600)
	last := elements[len(elements)-1]
	var ones, rows list
	for _, v := range elements[29100:] {
		ones = append(ones, dot(0, v))
	}
	for _, v := range elements[39300:] {
		rows = append(rows, dot(1, append(slices.Repeat(of(last), 7), v)...))
	}
	long := value.Set(elements)
	l := infos{channel("a", long), channel("b", slices.Repeat(of(long), 8)...)}
	wantError(t, "Productions of many values", api.ErrOverflow)(dataspace.Productions(l, value.Set(ones)))
	wantError(t, "Productions of many fields", api.ErrOverflow)(dataspace.Productions(l, value.Set(rows)))
	wantError(t, "Productions of many values and another", api.ErrDomain)(dataspace.Productions(l, value.Set(append(ones[1:], dot(1, no)))))
}

func TestManyLongDomainsCostLittle(t *testing.T) {
	long, longest := value.Set(names(43600)), set(sized(api.MaxValue-3, true))
	cons := slices.Repeat(infos{con("A", 0, long, long)}, 20000)
	wantValid(t, "many long domains", cons)
	wantError(t, "Values of many long domains", api.ErrOverflow)(dataspace.Values(cons, 0))
	wantEvents(t, "Events of many long domains and empty ones", slices.Repeat(infos{channel("a", long, longest, set())}, 20000))
}

func TestLongDomainsOfManyElementsCostLittle(t *testing.T) {
	// Each element is completed with one long field, so that a few of them have too many bytes.
	var fields list
	for i := range 4000 {
		fields = append(fields, dot(0, value.Name(i)))
	}
	l := infos{channel("a", unbounded, set(sized(100000, true)), set(sized(20000, true)))}
	wantError(t, "Productions", api.ErrOverflow)(dataspace.Productions(l, value.Set(fields)))
	wide := set(upTo(64)...)
	wantError(t, "Values", api.ErrOverflow)(dataspace.Values(infos{con("A", 0, wide, wide, set(sized(100000, true)))}, 0))
	wantError(t, "Extensions", api.ErrOverflow)(dataspace.Extensions(infos{con("A", 0, wide, wide, set(sized(100000, true)))}, dot(0)))
}
