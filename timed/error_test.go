package timed_test

import (
	"slices"
	"strings"
	"testing"

	"cspcheck/api"
	"cspcheck/syntax"
	"cspcheck/timed"
)

// P5.2

func TestTranslateInvalid(t *testing.T) {
	name := node(api.OpName, "x")
	function := node(api.OpFun, "x", node(api.OpParams, ""), name)
	section := node(api.OpTimed, "", name, node(api.OpBlock, "", function))
	for _, p := range [][]api.Node{
		nil,
		{},
		{{}},
		{{Op: api.OpProgram}},
		{{Op: api.OpProgram, Kids: -1}},
		{{Op: api.OpProgram, Kids: 1}},
		{{Op: -1, Kids: 1 << 62}},
		function,
		section,
		node(api.OpProgram, "", name),
		append(node(api.OpProgram, "", function), name...),
		node(api.OpProgram, "", node(api.OpTimed, "", name)),
		node(api.OpProgram, "", node(api.OpTimed, "", name, node(api.OpBlock, ""))),
		node(api.OpProgram, "", node(api.OpTimed, "", name, node(api.OpBlock, "", section))),
		node(api.OpProgram, "", node(api.OpFun, "x", node(api.OpParams, ""), node(api.OpLet, "", node(api.OpBlock, "", section), name))),
		source(t, "module M\n  x = 1\nendmodule"),
		source(t, "x = 1\ninstance I = M"),
		source(t, "channel tock\nTimed (f)\n  datatype D = A\nendtimed"),
		// ErrInvalid comes before the other errors.
		source(t, "Timed (f)\n  x = 1\nendtimed\ninstance I = M"),
		source(t, "channel tock\nTimed (f)\n  x = P /\\ Q\nendtimed\ninstance I = M"),
	} {
		wantErrorOf(t, p, api.Pos{}, api.ErrInvalid)
		if timed.Untimed(p) {
			t.Errorf("Untimed(%v)", p)
		}
	}
}

func TestTranslateWithoutTock(t *testing.T) {
	const end = "\n  P = STOP\nendtimed"
	for _, src := range []string{
		"`Timed (f)" + end,
		"channel tick, tocks, Tock\n`Timed (f)" + end,
		"channel tock : {1}\n`Timed (f)" + end,
		"channel a, tock : tock\n`Timed (f)" + end,
		"channel a : tock\n`Timed (f)" + end,
		"tock = 1\n`Timed (f)" + end,
		"datatype D = tock\n`Timed (f)" + end,
		"`Timed (tock)" + end,
		"P = Q\n`Timed (f)" + end + "\nTimed (g)" + end,
		// ErrName comes before the operators that are not permitted.
		"P = Q /\\ R\n`Timed (f)\n  P = Q /\\ R\nendtimed",
	} {
		wantError(t, src, api.ErrName)
	}
	p := withNames(source(t, "channel M'tock, tock'M\nTimed (f)"+end), "M'", "M::")
	wantErrorOf(t, p, api.Pos{Line: 2, Col: 1}, api.ErrName)
}

func TestTranslateWithTock(t *testing.T) {
	for _, channels := range []string{"channel tock", "channel a, tock, b", "channel tock : {1}\nchannel tock", "channel tock\nchannel tock"} {
		wantProgram(t, channels+"\nTimed (f)\n  P = STOP\nendtimed", lines(preamble("f"), channels, "P = T'stop"))
	}
	wantProgram(t, "Timed (f)\n  P = STOP\nendtimed\nchannel tock", lines(preamble("f"), "P = T'stop", "channel tock"))
}

func TestTranslateNotPermitted(t *testing.T) {
	const other = "A = Q /\\ R [> S [a <-> b] Q\n"
	for _, process := range []string{
		"Q `/\\ R",
		"Q `[> R",
		"Q `[a <-> b] R",
		"Q `/\\ (R [> S)",
		"(Q /\\ R) `[> S",
		"(Q /\\ R) `/\\ S",
		"(Q [> R) `[a <-> b] (Q /\\ S)",
		"Q [] (R `[> S)",
		"(Q `[a <-> b] R) [] S",
		"a -> (Q `/\\ R)",
		"a!(Q `[> R) -> Q",
		"a?x:f(Q `[> R) -> Q",
		"Q \\ f(Q `/\\ R)",
		"f(Q `/\\ R) & (Q [> R)",
		"<Q | x <- f(Q `/\\ R), (Q [> R)>",
		"\\ x @ Q `/\\ R",
		"(Q, R `[> S, R /\\ S)",
		"let\n    Q = R `/\\ S\n  within Q [> R",
	} {
		wantError(t, "channel tock\n"+other+"Timed (f)\n  P = "+process+"\nendtimed\n"+other, api.ErrInvalid)
	}
	wantError(t, "channel tock\nTimed (f)\n  P = Q\nendtimed\n"+other+"Timed (f)\n  P = Q\n  R = P `[> Q\n  S = P /\\ Q\nendtimed", api.ErrInvalid)
	wantError(t, "channel tock\nTimed (f)\n  (P, Q) = (Q `[> R, S)\nendtimed", api.ErrInvalid)
}

func TestTranslateTooManyNodes(t *testing.T) {
	for _, format := range []string{
		section("P = STOP", "X = <@>"),
		section("P = STOP") + "\nX = <@>",
		section("P = a?x -> Q [] R", "X = <@>"),
		section("P = a!(b -> Q) -> Q") + "\nX = <@>",
	} {
		with := func(ones int) []api.Node {
			return source(t, strings.Replace(format, "@", repeated(ones, "1", ","), 1))
		}
		most := 1 + api.MaxNodes - len(translate(t, with(1)))
		if q := translate(t, with(most)); len(q) != api.MaxNodes {
			t.Errorf("%s with %d elements: %d nodes", format, most, len(q))
		}
		wantErrorOf(t, with(most+1), api.Pos{}, api.ErrFull)
		wantErrorOf(t, with(most+50), api.Pos{}, api.ErrFull)
	}
	many := "<" + repeated(1000, "a -> Q", ",") + ">"
	wantErrorOf(t, source(t, section("P = "+many)), api.Pos{}, api.ErrFull)
	// No single section, and no single declaration, has too many nodes.
	part := "<" + repeated(80, "a -> Q", ",") + ">"
	wantErrorOf(t, source(t, "channel tock\n"+repeated(9, "Timed (f)\n  P = "+part+"\nendtimed", "\n")), api.Pos{}, api.ErrFull)
	wantErrorOf(t, source(t, "channel tock\nTimed (f)\n"+repeated(9, "  P = "+part, "\n")+"\nendtimed"), api.Pos{}, api.ErrFull)
}

func TestTranslateTooDeep(t *testing.T) {
	for process, depth := range map[string]int{ // the depth of @ in the translation
		"a -> @":       9,
		"Q [] a -> @":  10,
		"@ -> Q":       10,
		"a!(@) -> Q":   11,
		"a?x:@ -> Q":   9,
		"a?x?y:@ -> Q": 9,
		"a -> b -> @":  15,
	} {
		deep := func(n int) []api.Node {
			return source(t, section("P = "+strings.Replace(process, "@", repeated(n, "#", "")+"x", 1)))
		}
		most := api.MaxNest - depth
		translate(t, deep(most))
		wantErrorOf(t, deep(most+1), api.Pos{}, api.ErrFull)
	}
	// In a section, a process is deeper than in its translation.
	translate(t, source(t, section("P = "+repeated(59, "#", "")+"x")))
	// Each of several Prefixes makes the translation six deeper than the one before it.
	translate(t, source(t, section("P = "+repeated(10, "a -> ", "")+"Q")))
	wantErrorOf(t, source(t, section("P = "+repeated(11, "a -> ", "")+"Q")), api.Pos{}, api.ErrFull)
}

func TestTranslateTooManyParts(t *testing.T) {
	for process, isFull := range map[string]bool{
		"a?b?c?d?e?f?g?h -> Q":                  false,
		"a?b?c?d?e?f?g?h?i -> Q":                true,
		"a.b.c.d.e.f.g.h -> Q":                  false,
		"a.b.c.d.e.f.g.h?i -> Q":                true,
		"a.b.c.d.e.f.g!h -> Q":                  false,
		"a.b.c.d.e.f.g!h$i -> Q":                true,
		"a?(b.c.d.e.f.g.h.i) -> Q":              false,
		"a!(b.c.d.e)!(f.g.h.i)!(j.k) -> Q":      false,
		"a?((b.c.d.e.f.g.h.i)@@j) -> Q":         false,
		"a?(((b.c.d.e.f.g.h)@@j).k) -> Q":       false,
		"a?(((b.c.d.e.f.g.h.i)@@j).k) -> Q":     true,
		"a?((b@@(b.c.d.e.f.g.h.i)).k) -> Q":     false,
		"a?b?c?d?e?f?g?h?(_@@i) -> Q":           true,
		"Q [] R ||| (a.b.c.d.e!f!g!h!i -> Q)":   true,
		"(a.b.c.d?e?f -> Q) ; (a.b.c!d!e -> Q)": false,
	} {
		p := source(t, section("P = "+process))
		if isFull {
			wantErrorOf(t, p, api.Pos{}, api.ErrFull)
		} else {
			translate(t, p)
		}
	}
}

// Each Prefix has its event twice, so that the result would have more than 2^50 nodes.
func TestTranslateEndsEarly(t *testing.T) {
	event := repeated(55, "(", "") + "a" + repeated(55, " -> Q)", "")
	wantErrorOf(t, source(t, section("P = "+event+" -> Q")), api.Pos{}, api.ErrFull)
	short := repeated(12, "(", "") + "a" + repeated(12, " -> Q)", "")
	wantErrorOf(t, source(t, section("P = <"+repeated(200, short, ",")+">")), api.Pos{}, api.ErrFull)
}

// ErrFull comes last.
func TestTranslateNotPermittedBeforeFull(t *testing.T) {
	wantError(t, section("P = a?b?c?d?e?f?g?h?i -> Q", "Q = R `[> S"), api.ErrInvalid)
	wantErrorOf(t, source(t, "Timed (f)\n  P = a?b?c?d?e?f?g?h?i -> Q\nendtimed"), api.Pos{Line: 1, Col: 1}, api.ErrName)
}

// P5.3

func TestUntimed(t *testing.T) {
	for src, want := range map[string]bool{
		"P = STOP":                     true,
		"channel tock\nP = Q /\\ R":    true,
		section("P = STOP"):            false,
		"Timed (f)\n  P = 1\nendtimed": false,
		"P = 1\n" + section("P = 1"):   false,
		"module M\n  x = 1\nendmodule": false,
		"instance I = M":               false,
	} {
		p := source(t, src)
		before := slices.Clone(p)
		if got := timed.Untimed(p); got != want {
			t.Errorf("Untimed(%q) = %t", src, got)
		}
		if !slices.Equal(p, before) {
			t.Errorf("Untimed(%q) changed its argument", src)
		}
	}
	if p := withoutPrimes(source(t, "T'stop = T'0")); syntax.Valid(p) || !timed.Untimed(p) {
		t.Errorf("Untimed(%v) = false", p)
	}
}
