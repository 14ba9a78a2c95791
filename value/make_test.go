package value_test

import (
	"math"
	"slices"
	"testing"

	"cspcheck/api"
	"cspcheck/value"
)

const (
	zero  = "01 0000000000000000"
	one   = "01 0000000000000001"
	two   = "01 0000000000000002"
	three = "01 0000000000000003"
)

func TestSimpleEncodings(t *testing.T) {
	wantCode(t, "Int(0)", value.Int(0), zero)
	wantCode(t, "Int(1)", value.Int(1), one)
	wantCode(t, "Int(-1)", value.Int(-1), "01 ffffffffffffffff")
	wantCode(t, "an integer of eight different bytes", value.Int(0x0123456789abcdef), "01 0123456789abcdef")
	wantCode(t, "the greatest integer", value.Int(math.MaxInt64), "01 7fffffffffffffff")
	wantCode(t, "the least integer", value.Int(math.MinInt64), "01 8000000000000000")
	wantCode(t, "Bool(false)", value.Bool(false), "02 00")
	wantCode(t, "Bool(true)", value.Bool(true), "02 01")
	wantCode(t, "Name(0)", value.Name(0), "0a 0000")
	wantCode(t, "Name(258)", value.Name(258), "0a 0102")
	wantCode(t, "Name(65535)", value.Name(maxNumber), "0a ffff")
}

func TestNameOutOfRange(t *testing.T) {
	for _, n := range []int{-1, maxNumber + 1, 1 << 32, math.MinInt, math.MaxInt} {
		wantNone(t, "Name", value.Name(n))
	}
}

func TestCompoundEncodings(t *testing.T) {
	wantCode(t, "a tuple", value.Tuple(ints(2, 1)), "03 0002"+two+one)
	wantCode(t, "the empty sequence", value.Seq(nil), "04 0000")
	wantCode(t, "a sequence", value.Seq(ints(2, 1, 2)), "04 0003"+two+one+two)
	wantCode(t, "the empty set", value.Set(nil), "05 0000")
	wantCode(t, "a set", value.Set(ints(2, 1, 2)), "05 0002"+one+two)
	wantCode(t, "the empty map", value.Map(nil, nil), "06 0000")
	wantCode(t, "a map", value.Map(ints(2, 1), of(value.Bool(true), value.Bool(false))), "06 0004"+one+"02 00"+two+"02 01")
	wantCode(t, "a name alone", value.Dot(3, nil), "07 0001 0a 0003")
	wantCode(t, "a dotted value", value.Dot(256, ints(2, 1)), "07 0003 0a 0100"+two+one)
	wantCode(t, "a function", value.Fun(0, nil), "08 0001"+zero)
	wantCode(t, "a function with arguments", value.Fun(2, ints(1, 3)), "08 0003"+two+one+three)
	wantCode(t, "a process", value.Proc(api.ProcStop, nil), "09 0001"+one)
	wantCode(t, "a process with parts", value.Proc(api.ProcHole, of(value.Seq(nil), value.Name(1))), "09 0003 01 0000000000000015 04 0000 0a 0001")
	wantCode(t, "a value in others", value.Seq(of(value.Set(of(value.Seq(nil))), value.Bool(true))), "04 0002 05 0001 04 0000 02 01")
	wantCode(t, "256 elements", value.Seq(slices.Repeat(of(value.Bool(false)), 256)), "04 0100"+repeated("02 00", 256))
}

func repeated(digits string, n int) string {
	text := ""
	for range n {
		text += digits
	}
	return text
}

func TestNumbersOfParts(t *testing.T) {
	wantNone(t, "a tuple of none", value.Tuple(nil))
	wantNone(t, "a tuple of one", value.Tuple(upTo(1)))
	wantParts(t, "a tuple of 8", value.Tuple(upTo(8)), api.ValTuple, upTo(8))
	wantNone(t, "a tuple of 9", value.Tuple(upTo(9)))
	wantParts(t, "8 fields", value.Dot(1, upTo(8)), api.ValDot, append(of(value.Name(1)), upTo(8)...))
	wantNone(t, "9 fields", value.Dot(1, upTo(9)))
	wantParts(t, "32 arguments", value.Fun(1, upTo(32)), api.ValFun, append(ints(1), upTo(32)...))
	wantNone(t, "33 arguments", value.Fun(1, upTo(33)))
	wantParts(t, "300 parts of a process", value.Proc(1, upTo(300)), api.ValProc, append(ints(1), upTo(300)...))
	wantParts(t, "300 elements", value.Seq(upTo(300)), api.ValSeq, upTo(300))
	wantParts(t, "5000 elements of a set", value.Set(upTo(5000)), api.ValSet, upTo(5000))
}

func TestHeadsOutOfRange(t *testing.T) {
	for _, n := range []int{-1, maxNumber + 1, 1 << 32, math.MinInt, math.MaxInt} {
		wantNone(t, "Dot", value.Dot(n, nil))
		wantNone(t, "Fun", value.Fun(n, nil))
		wantNone(t, "Proc", value.Proc(n, nil))
	}
	wantValid(t, "Dot", value.Dot(maxNumber, nil), true)
	wantValid(t, "Fun", value.Fun(maxNumber, nil), true)
	wantNone(t, "the operator 0", value.Proc(api.ProcStop-1, nil))
	wantNone(t, "the operator after the last", value.Proc(api.ProcHole+1, nil))
	for op := api.ProcStop; op <= api.ProcHole; op++ {
		wantParts(t, "an operator", value.Proc(op, nil), api.ValProc, ints(int64(op)))
	}
}

func TestSetOfUnorderedElements(t *testing.T) {
	got := value.Set(of(value.Name(0), value.Int(-1), value.Seq(nil), value.Int(3), value.Bool(true), value.Int(-1), value.Seq(nil)))
	wantParts(t, "a set", got, api.ValSet, of(value.Int(-1), value.Int(3), value.Bool(true), value.Seq(nil), value.Name(0)))
}

func TestMapOfUnorderedKeys(t *testing.T) {
	got := value.Map(ints(3, -5, 0), ints(1, 1, 2))
	wantParts(t, "a map", got, api.ValMap, ints(-5, 1, 0, 2, 3, 1))
	wantParts(t, "the same map", value.Map(ints(0, 3, -5), ints(2, 1, 1)), api.ValMap, ints(-5, 1, 0, 2, 3, 1))
}

func TestMapWithoutResult(t *testing.T) {
	wantNone(t, "more keys", value.Map(ints(1, 2), ints(1)))
	wantNone(t, "more values", value.Map(ints(1), ints(1, 2)))
	wantNone(t, "no keys", value.Map(nil, ints(1)))
	wantNone(t, "equal keys", value.Map(ints(1, 1), ints(1, 2)))
	wantNone(t, "equal keys with equal values", value.Map(ints(1, 1), ints(1, 1)))
	wantNone(t, "equal keys that are apart", value.Map(ints(1, 2, 0, 1), ints(1, 2, 3, 4)))
	wantNone(t, "a key that is not valid", value.Map(of(value.Int(1), ""), ints(1, 2)))
	wantNone(t, "a value that is not valid", value.Map(ints(1, 2), of(value.Int(1), "\x02\x02")))
}

func TestElementsThatAreNotValid(t *testing.T) {
	half := value.Int(1)
	for _, l := range []list{
		of(value.Int(1), ""),
		of("\x02\x02", value.Int(1)),
		of(value.Int(1), value.Int(2)+"\x00"),
		of(value.Int(1), value.Int(2)[:8]),
		// Together these are the encodings of two integers.
		of(half[:4], half[4:]+half),
		of(half+half, ""),
	} {
		wantNone(t, "Tuple", value.Tuple(l))
		wantNone(t, "Seq", value.Seq(l))
		wantNone(t, "Set", value.Set(l))
		wantNone(t, "Map of keys", value.Map(l, ints(1, 2)))
		wantNone(t, "Map of values", value.Map(ints(1, 2), l))
		wantNone(t, "Dot", value.Dot(1, l))
		wantNone(t, "Fun", value.Fun(1, l))
		wantNone(t, "Proc", value.Proc(1, l))
	}
}

func TestArgumentsAreNotChanged(t *testing.T) {
	keys, values, same := ints(3, 1, 2), ints(7, 8, 9), ints(2, 2, 1)
	value.Map(keys, values)
	value.Set(keys)
	value.Sort(keys)
	value.Set(same)
	value.Sort(same)
	long := append(make(list, 0, 9), ints(5, 4)...)
	value.Dot(1, long)
	value.Fun(1, long)
	if !slices.Equal(keys, ints(3, 1, 2)) || !slices.Equal(values, ints(7, 8, 9)) || !slices.Equal(same, ints(2, 2, 1)) || long[:3][2] != "" {
		t.Errorf("changed: %q, %q, %q, %q", keys, values, same, long[:3])
	}
}

func TestResultsShareNoMemory(t *testing.T) {
	v := value.Seq(ints(1, 2))
	first := value.Parts(v)
	first[0] = "changed"
	wantParts(t, "a sequence", v, api.ValSeq, ints(1, 2))
	l := ints(1, 2)
	sorted := value.Sort(l)
	sorted[0] = "changed"
	if !slices.Equal(l, ints(1, 2)) {
		t.Errorf("Sort shares the memory of its argument: %q", l)
	}
}
