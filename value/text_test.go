package value_test

import (
	"math"
	"testing"

	"cspcheck/api"
	"cspcheck/value"
)

func TestTextOfSimpleValues(t *testing.T) {
	wantText(t, value.Int(0), "0")
	wantText(t, value.Int(120), "120")
	wantText(t, value.Int(-5), "-5")
	wantText(t, value.Int(math.MaxInt64), "9223372036854775807")
	wantText(t, value.Int(math.MinInt64), "-9223372036854775808")
	wantText(t, value.Bool(false), "false")
	wantText(t, value.Bool(true), "true")
}

func TestTextOfNames(t *testing.T) {
	wantText(t, value.Name(0), "a", "a", "b")
	wantText(t, value.Name(1), "b", "a", "b")
	wantText(t, value.Name(2), "?2", "a", "b")
	wantText(t, value.Name(0), "?0")
	wantText(t, value.Name(65535), "?65535", "a", "b")
	wantText(t, value.Name(1), "", "a", "")
	wantText(t, value.Name(0), "any text, \x00\xff", "any text, \x00\xff")
}

func TestTextOfCompoundValues(t *testing.T) {
	wantText(t, value.Tuple(of(value.Int(1), value.Bool(true))), "(1, true)")
	wantText(t, value.Tuple(ints(1, 2, 3)), "(1, 2, 3)")
	wantText(t, value.Seq(nil), "<>")
	wantText(t, value.Seq(ints(1)), "<1>")
	wantText(t, value.Seq(ints(2, 1)), "<2, 1>")
	wantText(t, value.Set(nil), "{}")
	wantText(t, value.Set(ints(2, 1)), "{1, 2}")
	wantText(t, value.Map(nil, nil), "(||)")
	wantText(t, value.Map(ints(1), ints(2)), "(|1 => 2|)")
	wantText(t, value.Map(ints(5, 3, 1), ints(6, 4, 2)), "(|1 => 2, 3 => 4, 5 => 6|)")
	wantText(t, value.Dot(0, nil), "c", "c")
	wantText(t, value.Dot(0, ints(3)), "c.3", "c")
	wantText(t, value.Dot(1, ints(3, -4)), "?1.3.-4", "c")
	wantText(t, value.Fun(0, nil), "fun(0)")
	wantText(t, value.Fun(7, ints(1, 2)), "fun(7, 1, 2)")
	wantText(t, value.Proc(api.ProcStop, nil), "proc(1)")
	wantText(t, value.Proc(api.ProcHole, ints(0)), "proc(21, 0)")
}

func TestTextOfNestedValues(t *testing.T) {
	wantText(t, value.Dot(0, of(value.Dot(1, ints(2)), value.Seq(of(value.Dot(1, nil))))), "c.D.2.<D>", "c", "D")
	wantText(t, value.Map(of(value.Set(ints(1, 2))), of(value.Tuple(of(value.Seq(nil), value.Seq(ints(1)))))), "(|{1, 2} => (<>, <1>)|)")
	wantText(t, value.Proc(api.ProcSync, of(value.Proc(api.ProcStop, nil), value.Proc(api.ProcCall, of(value.Fun(3, ints(1)))), value.Set(of(value.Dot(0, nil))))), "proc(13, proc(1), proc(5, fun(3, 1)), {c})", "c")
	wantText(t, value.Seq(of(value.Map(ints(1), of(value.Dot(0, of(value.Map(ints(2, 3), ints(4, 5)))))), value.Name(0))), "<(|1 => c.(|2 => 4, 3 => 5|)|), c>", "c")
}

func TestTextOfOthers(t *testing.T) {
	for _, v := range of("", "\x02\x02", value.Int(1)[:8], value.Int(1)+"x", "\x03\x00\x00") {
		wantText(t, v, "", "c")
	}
}
