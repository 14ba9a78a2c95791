package value_test

import (
	"math"
	"slices"
	"testing"

	"cspcheck/api"
	"cspcheck/value"
)

func TestValidEncodings(t *testing.T) {
	for _, digits := range []string{
		zero, "02 00", "02 01", "0a ffff",
		"03 0002" + one + one,
		"04 0000", "04 0002" + two + one,
		"05 0000", "05 0002" + one + two,
		"06 0000", "06 0002" + one + one, "06 0004" + one + two + two + one,
		"07 0001 0a 0000", "07 0002 0a 0001" + one,
		"08 0001 01 000000000000ffff", "08 0002" + zero + "02 01",
		"09 0001" + one, "09 0003 01 0000000000000015 02 01 04 0000",
	} {
		wantValid(t, digits, code(digits), true)
	}
}

func TestEncodingsThatAreNotValid(t *testing.T) {
	for _, digits := range []string{
		// the empty string, and kinds that there are not
		"", "00", "00 0000", "0b 0000", "0b 00", "ff 0000", "00" + one,
		// too short or too long
		"01", "01 00000000000000", "01 000000000000000001", "02", "02 0100", "0a", "0a 00", "0a 000000",
		"04", "04 00", "04 0000 00", "04 0001", "04 0001" + one + "00", "04 0002" + one, "04 0001 01 00", "04 0001 04 00", "04 ffff",
		// a boolean that is neither 0 nor 1
		"02 02", "02 ff", "04 0001 02 02",
		// numbers of parts
		"03 0000", "03 0001" + one, "03 0009" + repeated(one, 9),
		"06 0001" + one, "06 0003" + one + two + two,
		"07 0000", "07 000a 0a 0000" + repeated(one, 9),
		"08 0000", "08 0022" + repeated(one, 34),
		"09 0000",
		// elements and keys that are not ascending
		"05 0002" + two + one, "05 0002" + one + one, "05 0003" + one + two + two, "05 0003" + one + three + two,
		"06 0004" + one + one + one + two, "06 0004" + two + one + one + one,
		// heads of a wrong kind
		"07 0001" + one, "07 0002" + one + "0a 0000", "07 0001 02 00",
		"08 0001 0a 0000", "08 0001 02 00", "08 0001 04 0000", "09 0001 0a 0001", "09 0001 02 01",
		// heads out of range
		"08 0001 01 0000000000010000", "08 0001 01 ffffffffffffffff", "08 0001 01 8000000000000000", "08 0001 01 0100000000000000",
		"09 0001" + zero, "09 0001 01 0000000000000016", "09 0001 01 ffffffffffffffff", "09 0001 01 0100000000000001",
		// parts that are not valid
		"04 0001 00", "04 0001 0b0000", "04 0001 03 0001" + one, "04 0002" + one + "05 0002" + two + one,
		"06 0002 02 02" + one, "06 0002" + one + "02 02", "07 0002 0a 0000 02 03", "08 0002" + one + "02 03", "09 0002" + one + "02 03",
	} {
		wantValid(t, digits, code(digits), false)
	}
}

func TestMapValuesNeedNotAscend(t *testing.T) {
	wantValid(t, "equal values", code("06 0004"+one+two+two+two), true)
	wantValid(t, "descending values", code("06 0004"+one+three+two+one), true)
	wantValid(t, "a value before its key", code("06 0002"+three+one), true)
}

func TestKindAndNumber(t *testing.T) {
	for _, n := range []int64{0, 1, -1, 255, 256, -256, math.MaxInt64, math.MinInt64, 0x0123456789abcdef} {
		wantNumber(t, "an integer", value.Int(n), api.ValInt, n)
	}
	wantNumber(t, "false", value.Bool(false), api.ValBool, 0)
	wantNumber(t, "true", value.Bool(true), api.ValBool, 1)
	for _, n := range []int{0, 1, 255, 256, 258, 65535} {
		wantNumber(t, "a name", value.Name(n), api.ValName, int64(n))
	}
}

func TestPartsOfCompoundValues(t *testing.T) {
	wantParts(t, "a tuple", value.Tuple(ints(2, 1)), api.ValTuple, ints(2, 1))
	wantParts(t, "the empty sequence", value.Seq(nil), api.ValSeq, nil)
	inner := of(value.Seq(ints(1, 2)), value.Bool(true), value.Set(ints(3)), value.Dot(4, ints(1)), value.Int(9))
	wantParts(t, "a sequence", value.Seq(inner), api.ValSeq, inner)
	wantParts(t, "the empty set", value.Set(nil), api.ValSet, nil)
	wantParts(t, "the empty map", value.Map(nil, nil), api.ValMap, nil)
	wantParts(t, "a map", value.Map(of(value.Bool(true), value.Int(4)), inner[:2]), api.ValMap, of(value.Int(4), inner[1], value.Bool(true), inner[0]))
	wantParts(t, "a name alone", value.Dot(7, nil), api.ValDot, of(value.Name(7)))
	wantParts(t, "a dotted value", value.Dot(7, inner), api.ValDot, append(of(value.Name(7)), inner...))
	wantParts(t, "a function", value.Fun(300, inner), api.ValFun, append(ints(300), inner...))
	wantParts(t, "a process", value.Proc(api.ProcHide, inner), api.ValProc, append(ints(api.ProcHide), inner...))
}

func TestResultsKeepTheirParts(t *testing.T) {
	l := upTo(8)
	slices.Reverse(l)
	wantParts(t, "Tuple", value.Tuple(l), api.ValTuple, l)
	wantParts(t, "Seq", value.Seq(l), api.ValSeq, l)
	wantParts(t, "Set", value.Set(slices.Concat(l, l)), api.ValSet, upTo(8))
}
