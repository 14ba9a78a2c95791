package value_test

import (
	"slices"
	"testing"

	"cspcheck/api"
	"cspcheck/value"
)

// sized returns a sequence of n bytes, at least 10 and no more than the limit.
func sized(n int) api.Value {
	l := slices.Repeat(of(value.Bool(true)), (n-3)/2)
	if n%2 == 0 {
		l = append(slices.Repeat(of(value.Bool(true)), (n-6)/2), value.Name(0))
	}
	return value.Seq(l)
}

func TestLongestValue(t *testing.T) {
	for _, n := range []int{api.MaxValue - 1, api.MaxValue} {
		v := sized(n)
		if len(v) != n {
			t.Fatalf("the sequence has %d bytes, want %d", len(v), n)
		}
		wantValid(t, "a long value", v, true)
	}
	bools := slices.Repeat(of(value.Bool(true)), 65534)
	wantParts(t, "the most parts", value.Seq(bools), api.ValSeq, bools)
	wantNone(t, "one part more", value.Seq(append(bools, value.Bool(true))))
	wantNone(t, "65536 parts", value.Seq(slices.Repeat(of(value.Bool(true)), 65536)))
	wantNone(t, "65536 parts of a process", value.Proc(1, slices.Repeat(of(value.Bool(true)), 65536)))
	wantValid(t, "one byte too many", "\x04\xff\xfe"+api.Value(slices.Concat(
		[]byte(sized(api.MaxValue - 1)[3:]), []byte{4, 0})), false)
}

func TestTooLongByOneByte(t *testing.T) {
	// A sequence around this one has three bytes more.
	fitting, long := sized(api.MaxValue-3), sized(api.MaxValue-2)
	if len(value.Seq(of(fitting))) != api.MaxValue {
		t.Errorf("a sequence of %d bytes fits", api.MaxValue)
	}
	wantNone(t, "Seq", value.Seq(of(long)))
	wantNone(t, "Set", value.Set(of(long)))
	wantValid(t, "an encoding that is too long", "\x04\x00\x01"+long, false)
	wantValid(t, "the longest encoding", "\x04\x00\x01"+fitting, true)
}

func TestTooLongOfEachKind(t *testing.T) {
	// Two of these and a header have one byte too many.
	half := sized(api.MaxValue/2 - 1)
	other := half[:3] + "\x02\x00" + half[5:]
	for what, fits := range map[string]func(part api.Value) api.Value{
		"Tuple": func(part api.Value) api.Value { return value.Tuple(of(part, part)) },
		"Seq":   func(part api.Value) api.Value { return value.Seq(of(part, part)) },
		"Map":   func(part api.Value) api.Value { return value.Map(of(part), of(part)) },
		"Dot":   func(part api.Value) api.Value { return value.Dot(0, of(part, part)) },
		"Fun":   func(part api.Value) api.Value { return value.Fun(0, of(part, part)) },
		"Proc":  func(part api.Value) api.Value { return value.Proc(1, of(part, part)) },
	} {
		wantNone(t, what, fits(half))
		wantValid(t, what, fits(sized(api.MaxValue/2-7)), true)
	}
	wantNone(t, "Set", value.Set(of(half, other)))
	wantValid(t, "Set", value.Set(of(half, half)), true)
}

func TestDuplicatesOfASetDoNotCount(t *testing.T) {
	got := value.Set(slices.Repeat(ints(7, 5), 40000))
	wantParts(t, "a set", got, api.ValSet, ints(5, 7))
}

func TestDeepestValue(t *testing.T) {
	for _, inner := range of(value.Int(1), value.Bool(true), value.Name(1), value.Seq(nil), value.Set(nil), value.Map(nil, nil)) {
		deepest := nested(api.MaxValueNest-1, inner)
		wantValid(t, "the deepest value", deepest, true)
		wantValid(t, "too deep", nested(api.MaxValueNest, inner), false)
		wantNone(t, "Seq", value.Seq(of(deepest)))
		wantNone(t, "Set", value.Set(of(deepest)))
		wantNone(t, "Tuple", value.Tuple(of(value.Int(1), deepest)))
		wantNone(t, "Map", value.Map(of(deepest), ints(1)))
		wantNone(t, "Map", value.Map(ints(1), of(deepest)))
		wantNone(t, "Dot", value.Dot(1, of(deepest)))
		wantNone(t, "Fun", value.Fun(1, of(deepest)))
		wantNone(t, "Proc", value.Proc(1, of(deepest)))
		fitting := nested(api.MaxValueNest-2, inner)
		for _, v := range of(value.Seq(of(fitting)), value.Set(of(fitting)), value.Tuple(of(fitting, inner)), value.Map(of(fitting), of(fitting)), value.Dot(1, of(fitting)), value.Fun(1, of(fitting)), value.Proc(1, of(fitting))) {
			wantValid(t, "a value around one", v, true)
		}
	}
}

func TestHeadsAreNestedParts(t *testing.T) {
	// The name, function number or operator lies one level deeper than the value that it is a part of.
	for _, v := range of(value.Dot(0, nil), value.Fun(0, nil), value.Proc(1, nil)) {
		wantValid(t, "the deepest place", nested(api.MaxValueNest-2, v), true)
		wantValid(t, "too deep", nested(api.MaxValueNest-1, v), false)
	}
}

func TestManyLevelsOfNesting(t *testing.T) {
	wantValid(t, "far too deep", nested(40000, value.Int(1)), false)
	wantValid(t, "without an end", nested(40000, ""), false)
}
