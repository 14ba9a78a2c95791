package finset_test

import (
	"slices"
	"testing"

	"cspcheck/api"
	"cspcheck/finset"
	"cspcheck/value"
)

// bools returns k booleans.
func bools(k int) list { return slices.Repeat(of(value.Bool(true)), k) }

func TestMostElements(t *testing.T) {
	low, high := value.Set(between(1, 2048)), value.Set(between(2049, api.MaxSet))
	all := value.Set(between(1, api.MaxSet))
	more := value.Set(between(1, api.MaxSet+1))
	wantValue(t, "Union", all)(finset.Union(low, high))
	wantValue(t, "Union of equal sets", all)(finset.Union(all, all))
	wantError(t, "Union with one more", api.ErrOverflow)(finset.Union(all, set(0)))
	wantError(t, "Union of a set that has one more", api.ErrOverflow)(finset.Union(more, set()))
	wantValue(t, "Inter", all)(finset.Inter(all, more))
	wantError(t, "Inter of sets that have one more", api.ErrOverflow)(finset.Inter(more, more))
	wantValue(t, "Inter of long sets", set(api.MaxSet+1))(finset.Inter(more, value.Set(between(api.MaxSet+1, 2*api.MaxSet+5))))
	wantValue(t, "Diff", all)(finset.Diff(more, set(api.MaxSet+1)))
	wantError(t, "Diff of a set that has one more", api.ErrOverflow)(finset.Diff(more, set(0)))
	wantValue(t, "Diff of long sets", set())(finset.Diff(more, more))
	wantValue(t, "BigUnion", all)(finset.BigUnion(sets(low, high, set(1))))
	wantError(t, "BigUnion with one more", api.ErrOverflow)(finset.BigUnion(sets(low, high, set(0))))
	wantError(t, "BigUnion of a set that has one more", api.ErrOverflow)(finset.BigUnion(sets(more)))
	wantValue(t, "BigInter", all)(finset.BigInter(sets(all, more)))
	wantError(t, "BigInter of a set that has one more", api.ErrOverflow)(finset.BigInter(sets(more)))
	wantBool(t, "Member", true)(finset.Member(n(api.MaxSet+1), more))
	wantBool(t, "Member of no element", false)(finset.Member(n(0), more))
}

// names returns the names from 1 to k as values, which are short enough for many of them in a set.
func names(k int) list {
	var l list
	for i := range k {
		l = append(l, value.Name(i+1))
	}
	return l
}

func TestMostSubsets(t *testing.T) {
	v, err := finset.Subsets(value.Set(names(12)))
	if err != api.OK || len(value.Parts(v)) != api.MaxSet {
		t.Errorf("the subsets are %s", shown(v, err))
	}
	for _, k := range []int{13, 14, 31, 32, 33, 62, 63, 64, 65, 76, 128, 4096, 40000} {
		wantError(t, "Subsets of too many", api.ErrOverflow)(finset.Subsets(value.Set(names(k))))
	}
}

func TestMostSequences(t *testing.T) {
	wide, two := value.Set(between(1, 64)), sets(value.Bool(false), value.Bool(true))
	for _, l := range []list{
		of(wide, wide), of(value.Set(between(1, api.MaxSet))),
		slices.Repeat(of(two), 12), append(slices.Repeat(of(two), 12), sets(value.Bool(true))),
	} {
		v, err := finset.Product(l)
		if err != api.OK || len(value.Parts(v)) != api.MaxSet {
			t.Errorf("the product is %s", shown(v, err))
		}
	}
	for _, l := range []list{
		of(wide, value.Set(names(65))), of(wide, wide, two), slices.Repeat(of(two), 13), of(value.Set(names(api.MaxSet + 1))),
		// The numbers of these sequences end with 32 zero bits or more, which must not hide that they are many.
		slices.Repeat(of(two), 32), slices.Repeat(of(two), 63), slices.Repeat(of(two), 64), slices.Repeat(of(two), 65), slices.Repeat(of(wide), 11), slices.Repeat(of(wide), 4000),
	} {
		wantError(t, "Product with too many sequences", api.ErrOverflow)(finset.Product(l))
	}
}

func TestMostPairs(t *testing.T) {
	keys := between(1, api.MaxSet+1)
	all := value.Map(keys[:api.MaxSet], bools(api.MaxSet))
	more := value.Map(keys, bools(api.MaxSet+1))
	wantValue(t, "Update with the last pair", all)(finset.Update(value.Map(keys[1:api.MaxSet], bools(api.MaxSet-1)), n(1), value.Bool(true)))
	wantValue(t, "Update of a key", all)(finset.Update(all, n(7), value.Bool(true)))
	wantError(t, "Update with one more", api.ErrOverflow)(finset.Update(all, n(0), value.Bool(true)))
	wantError(t, "Update of a map that has one more", api.ErrOverflow)(finset.Update(more, n(7), value.Bool(false)))
	wantValue(t, "Delete", all)(finset.Delete(more, n(api.MaxSet+1)))
	wantError(t, "Delete of no key", api.ErrOverflow)(finset.Delete(more, n(0)))
	wantValue(t, "Keys", value.Set(keys[:api.MaxSet]))(finset.Keys(all))
	wantError(t, "Keys of a map that has one more", api.ErrOverflow)(finset.Keys(more))
	wantText(t, "Lookup", "true")(finset.Lookup(more, n(api.MaxSet+1)))
	wantError(t, "Lookup of no key", api.ErrEmpty)(finset.Lookup(more, n(0)))
	wantBool(t, "HasKey", true)(finset.HasKey(more, n(api.MaxSet+1)))
}

func TestElementsMayBeLong(t *testing.T) {
	// The limit of elements is about the result itself and not about the values in it.
	long := value.Set(between(1, 5000))
	wantValue(t, "Union", sets(n(1), long))(finset.Union(set(1), sets(long)))
	wantValue(t, "Product", sets(seq(long, n(1))))(finset.Product(of(sets(long), set(1))))
	wantValue(t, "Update", mapOf(n(1), long))(finset.Update(mapOf(), n(1), long))
	wantValue(t, "Update of a long key", mapOf(long, n(1)))(finset.Update(mapOf(), long, n(1)))
	wantValue(t, "Lookup", long)(finset.Lookup(mapOf(n(1), long), n(1)))
	wantValue(t, "Keys", sets(long))(finset.Keys(mapOf(long, n(1))))
	wantValue(t, "Product of 5000 sets", sets(value.Seq(between(1, 5000))))(finset.Product(singles(between(1, 5000))))
}

// singles returns sets of one element each.
func singles(l list) list {
	var out list
	for _, v := range l {
		out = append(out, sets(v))
	}
	return out
}

func TestLongestSets(t *testing.T) {
	// A set of these two has a header of 3 bytes.
	half, rest := sized(60001, false), sized(api.MaxValue-3-60001, true)
	long := sized(api.MaxValue-3-60001+1, true)
	wantValue(t, "Union", sets(half, rest))(finset.Union(sets(half), sets(rest)))
	wantError(t, "Union with one byte more", api.ErrOverflow)(finset.Union(sets(half), sets(long)))
	wantValue(t, "Diff", sets(half, rest))(finset.Diff(sets(half, rest), sets(long)))
	wantValue(t, "Inter", sets(half, rest))(finset.Inter(sets(half, rest), sets(half, rest)))
	wantValue(t, "Product", sets(seq(sized(60001, false), sized(api.MaxValue-6-60001, true))))(finset.Product(of(sets(sized(60001, false)), sets(sized(api.MaxValue-6-60001, true)))))
	wantError(t, "Product with one byte more", api.ErrOverflow)(finset.Product(of(sets(half), sets(sized(api.MaxValue-5-60001, true)))))
	wantError(t, "Product of sequences that are too long", api.ErrOverflow)(finset.Product(of(sets(half), sets(half), sets(half))))
	// The subsets of two elements have 4 headers and each element twice, the set of them one more header.
	wantSubsets := 3 + 4*3 + 2*(30001+(api.MaxValue-3-4*3-2*30001)/2)
	v, err := finset.Subsets(sets(sized(30001, false), sized((api.MaxValue-3-4*3-2*30001)/2, true)))
	if err != api.OK || len(v) != wantSubsets || wantSubsets != api.MaxValue-1 {
		t.Errorf("the subsets are %s", shown(v, err))
	}
	wantError(t, "Subsets with one byte more", api.ErrOverflow)(finset.Subsets(sets(sized(30001, false), sized((api.MaxValue-3-4*3-2*30001)/2+1, true))))
}

func TestLongestMaps(t *testing.T) {
	key, rest := sized(60001, false), sized(api.MaxValue-3-60001, true)
	wantValue(t, "Update", mapOf(key, rest))(finset.Update(mapOf(), key, rest))
	wantError(t, "Update with one byte more", api.ErrOverflow)(finset.Update(mapOf(), key, sized(api.MaxValue-3-60001+1, true)))
	wantError(t, "Update with one pair more", api.ErrOverflow)(finset.Update(mapOf(key, rest), value.Bool(true), value.Bool(true)))
	wantValue(t, "Update with a shorter value", mapOf(key, n(1)))(finset.Update(mapOf(key, rest), key, n(1)))
	wantValue(t, "Delete", mapOf(key, rest))(finset.Delete(mapOf(key, rest), n(1)))
	wantValue(t, "Keys", sets(key))(finset.Keys(mapOf(key, rest)))
	wantValue(t, "Lookup", rest)(finset.Lookup(mapOf(key, rest), key))
}

func TestDeepestResults(t *testing.T) {
	// Values of these depths.
	deepest, fitting, inner := nested(api.MaxValueNest-1, n(1)), nested(api.MaxValueNest-2, n(1)), nested(api.MaxValueNest-3, n(1))
	wantValue(t, "Union", sets(fitting, n(1)))(finset.Union(sets(fitting), set(1)))
	wantValue(t, "BigUnion", sets(inner))(finset.BigUnion(sets(sets(inner))))
	wantValue(t, "Subsets", sets(set(), sets(inner)))(finset.Subsets(sets(inner)))
	wantError(t, "Subsets that are too deep", api.ErrOverflow)(finset.Subsets(sets(fitting)))
	wantValue(t, "Product", sets(seq(inner)))(finset.Product(of(sets(inner))))
	wantError(t, "Product that is too deep", api.ErrOverflow)(finset.Product(of(sets(fitting))))
	wantError(t, "Product with an element that is too deep", api.ErrOverflow)(finset.Product(of(set(1, 2), sets(n(1), fitting))))
	wantValue(t, "Update", mapOf(n(1), fitting))(finset.Update(mapOf(), n(1), fitting))
	wantValue(t, "Update of the key", mapOf(fitting, n(1)))(finset.Update(mapOf(), fitting, n(1)))
	wantError(t, "Update with a value that is too deep", api.ErrOverflow)(finset.Update(mapOf(), n(1), deepest))
	wantError(t, "Update with a key that is too deep", api.ErrOverflow)(finset.Update(mapOf(), deepest, n(1)))
	wantBool(t, "Member", false)(finset.Member(deepest, sets(fitting)))
	wantBool(t, "HasKey", false)(finset.HasKey(mapOf(fitting, n(1)), deepest))
	wantError(t, "Lookup", api.ErrEmpty)(finset.Lookup(mapOf(fitting, n(1)), deepest))
	wantValue(t, "Delete", mapOf(fitting, n(1)))(finset.Delete(mapOf(fitting, n(1)), deepest))
}

func TestResultsThatAreFarTooLongCostLittle(t *testing.T) {
	// All the subsets and sequences here have hundreds of megabytes.
	var l, pairs list
	for i := range int64(12) {
		v := seq(n(i), sized(10000, true))
		l, pairs = append(l, v), append(pairs, sets(v, n(1)))
	}
	wantError(t, "Subsets", api.ErrOverflow)(finset.Subsets(value.Set(l)))
	wantError(t, "Product", api.ErrOverflow)(finset.Product(pairs))
	wantError(t, "Product of too many sets", api.ErrOverflow)(finset.Product(slices.Repeat(of(set(1)), 3000000)))
	bytes := slices.Repeat(of(sets(value.Bool(true))), 40000)
	for i := range 12 {
		bytes[i*1000] = sets(value.Bool(false), value.Bool(true))
	}
	wantError(t, "Product of long sequences", api.ErrOverflow)(finset.Product(bytes))
}

func TestLongElementsAmongManyOthers(t *testing.T) {
	// The long sequence is the last one of all.
	long := value.Seq(append(of(value.Name(65535)), bools(60000)...))
	var others list
	for i := range 20000 {
		others = append(others, seq(value.Name(i)))
	}
	wantError(t, "Union", api.ErrOverflow)(finset.Union(sets(long), value.Set(others)))
	wantValue(t, "Union of fewer", value.Set(append(of(long), others[:1000]...)))(finset.Union(sets(long), value.Set(others[:1000])))
	wantText(t, "Inter", "{}")(finset.Inter(sets(long), value.Set(others)))
	wantValue(t, "Diff", sets(long))(finset.Diff(sets(long), value.Set(others)))
}
