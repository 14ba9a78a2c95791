package timed_test

import (
	"slices"
	"testing"

	"cspcheck/syntax"
)

// P5.1

func TestTranslateTable(t *testing.T) {
	for process, want := range map[string]string{
		"STOP":                                "T'stop",
		"SKIP":                                "T'skip",
		"DIV":                                 "DIV",
		"Q":                                   "Q",
		"b & STOP":                            "if b then T'stop else T'stop",
		"b & c & SKIP":                        "if b then if c then T'skip else T'stop else T'stop",
		"STOP [] SKIP":                        "T'stop [+ {T'tock} +] T'skip",
		"Q [+A+] STOP":                        "Q [+ T'union(A, {T'tock}) +] T'stop",
		"STOP |~| SKIP":                       "T'stop |~| T'skip",
		"STOP ; SKIP":                         "T'stop ; T'skip",
		"STOP ||| SKIP":                       "T'stop [| {T'tock} |] T'skip",
		"SKIP [|A|] STOP":                     "T'skip [| T'union(A, {T'tock}) |] T'stop",
		"STOP [A||B] SKIP":                    "T'stop [T'union(A, {T'tock}) || T'union(B, {T'tock})] T'skip",
		"STOP [|A|> SKIP":                     "T'stop [|A|> T'skip",
		"STOP \\ A":                           "T'stop \\ T'diff(A, {T'tock})",
		"STOP [[a <- b]]":                     "T'stop [[a <- b]]",
		"STOP [[a.x <- b | x <- s, x == 1]]":  "T'stop [[a.x <- b | x <- s, x == 1]]",
		"chase(STOP)":                         "chase(T'stop)",
		"prioritise(STOP, o)":                 "prioritise(T'stop, o)",
		"[] x:s @ STOP":                       "[+ {T'tock} +] x:s @ T'stop",
		"||| x:s, b @ STOP":                   "[| {T'tock} |] x:s, b @ T'stop",
		"[|A|] x:s @ STOP":                    "[| T'union(A, {T'tock}) |] x:s @ T'stop",
		"[+A+] x:s @ STOP":                    "[+ T'union(A, {T'tock}) +] x:s @ T'stop",
		"|| x:s @ [A] STOP":                   "|| x:s @ [T'union(A, {T'tock})] T'stop",
		"|~| x:s @ STOP":                      "|~| x:s @ T'stop",
		"; x:s @ STOP":                        "; x:s @ T'stop",
		"if STOP == SKIP then STOP else SKIP": "if T'stop == T'skip then T'stop else T'skip",
		"\\ x @ STOP":                         "\\ x @ T'stop",
		"f(STOP, <SKIP>, {STOP}, (x, SKIP))":  "f(T'stop, <T'skip>, {T'stop}, (x, T'skip))",
		"<STOP | x <- f(SKIP), g(STOP)>":      "<T'stop | x <- f(T'skip), g(T'stop)>",
		"(| 1 => STOP |)":                     "(| 1 => T'stop |)",
	} {
		wantProcess(t, process, want)
	}
}

// Parts that are no operands of a process are translated, too.
func TestTranslateOtherParts(t *testing.T) {
	for process, want := range map[string]string{
		"f(STOP) & Q":                 "if f(T'stop) then Q else T'stop",
		"Q [+f(STOP)+] R":             "Q [+ T'union(f(T'stop), {T'tock}) +] R",
		"Q [|f(STOP)|] R":             "Q [| T'union(f(T'stop), {T'tock}) |] R",
		"Q [f(STOP)||f(SKIP)] R":      "Q [T'union(f(T'stop), {T'tock}) || T'union(f(T'skip), {T'tock})] R",
		"Q [|f(STOP)|> R":             "Q [|f(T'stop)|> R",
		"Q \\ f(STOP)":                "Q \\ T'diff(f(T'stop), {T'tock})",
		"Q [[f(STOP) <- f(SKIP)]]":    "Q [[f(T'stop) <- f(T'skip)]]",
		"Q [[a <- b | x <- f(STOP)]]": "Q [[a <- b | x <- f(T'stop)]]",
		"prioritise(Q, f(STOP))":      "prioritise(Q, f(T'stop))",
		"[] x:f(STOP), f(SKIP) @ Q":   "[+ {T'tock} +] x:f(T'stop), f(T'skip) @ Q",
		"||| x:f(STOP) @ Q":           "[| {T'tock} |] x:f(T'stop) @ Q",
		"[|f(STOP)|] x:f(SKIP) @ Q":   "[| T'union(f(T'stop), {T'tock}) |] x:f(T'skip) @ Q",
		"[+f(STOP)+] x:f(SKIP) @ Q":   "[+ T'union(f(T'stop), {T'tock}) +] x:f(T'skip) @ Q",
		"|| x:f(STOP) @ [f(SKIP)] Q":  "|| x:f(T'stop) @ [T'union(f(T'skip), {T'tock})] Q",
		"|~| x:f(STOP) @ Q":           "|~| x:f(T'stop) @ Q",
		"; x:f(STOP) @ Q":             "; x:f(T'stop) @ Q",
	} {
		wantProcess(t, process, want)
	}
	wantProcess(t, "f(STOP)!(f(SKIP))?x:f(STOP)$y:f(SKIP) -> Q", here("f(T'stop)!(f(T'skip))?x:f(T'stop)$y:f(T'skip)", "f(T'stop).f(T'skip).x.y", "Q"))
}

func TestTranslatePrefix(t *testing.T) {
	for process, want := range map[string]string{
		"a -> STOP":                  here("a", "a", "T'stop"),
		"a.1.2 -> Q":                 here("a.1.2", "a.1.2", "Q"),
		"a!1 -> Q":                   here("a!1", "a.1", "Q"),
		"a.1!2?x -> Q":               here("a.1!2?x", "a.1.2.x", "Q"),
		"a?x!(x.1)$y -> Q(x)":        here("a?x!(x.1)$y", "a.x.(x.1).y", "Q(x)"),
		"a?x:s -> Q":                 here("a?x:s", "a.x", "Q"),
		"a?(x.y)?z -> Q":             here("a?(x.y)?z", "a.(x.y).z", "Q"),
		"a?(x, 1, -2, true, b) -> Q": here("a?(x, 1, -2, true, b)", "a.(x, 1, -2, true, b)", "Q"),
		"a?(<x>^y)?{}?{z} -> Q":      here("a?(<x>^y)?{}?{z}", "a.(<x>^y).{}.{z}", "Q"),
		"b & a -> Q":                 "if b then " + here("a", "a", "Q") + " else T'stop",
	} {
		wantProcess(t, process, want)
	}
	wantProcess(t, "a -> b -> STOP", here("a", "a", hereIn("      ", "0", "b", "b", "T'stop")))
}

// The event of a Prefix is translated in both of its places.
func TestTranslatePrefixInAnEvent(t *testing.T) {
	inner := hereIn("      ", "0", "a", "a", "T'stop")
	wantProcess(t, "f(a -> STOP) -> Q", here("f("+inner+")", "f("+inner+")", "Q"))
	wantProcess(t, "c!(a -> STOP) -> Q", here("c!("+inner+")", "c.("+inner+")", "Q"))
}

func TestTranslateNamesWilds(t *testing.T) {
	for process, want := range map[string]string{
		"a?_ -> Q":                 here("a?T'0", "a.T'0", "Q"),
		"a$_:s -> Q":               here("a$T'0:s", "a.T'0", "Q"),
		"a?_!x?(_, y, {_})$_ -> Q": here("a?T'0!x?(T'1, y, {T'2})$T'3", "a.T'0.x.(T'1, y, {T'2}).T'3", "Q"),
		"a?(<_, 1>^_^<_>) -> Q":    here("a?(<T'0, 1>^T'1^<T'2>)", "a.(<T'0, 1>^T'1^<T'2>)", "Q"),
		// Other Wilds stay.
		"a?_:f(\\_ @ 1)?_ -> (\\_ @ Q)": here("a?T'0:f(\\_ @ 1)?T'1", "a.T'0.T'1", "\\_ @ Q"),
		"_!_ -> _":                      here("_!_", "_._", "_"),
		"[] _:s @ Q":                    "[+ {T'tock} +] _:s @ Q",
		// Each Prefix counts its own.
		"a?_ -> b?_?_ -> Q":      here("a?T'0", "a.T'0", hereIn("      ", "0", "b?T'0?T'1", "b.T'0.T'1", "Q")),
		"a?_:f(b?_ -> Q)?_ -> Q": here("a?T'0:f("+hereIn("      ", "0", "b?T'0", "b.T'0", "Q")+")?T'1", "a.T'0.T'1", "Q"),
	} {
		wantProcess(t, process, want)
	}
	wantProcess(t, "a?_?_?_?_?_?_?(_, _, _, _, _, _) -> Q",
		here("a?T'0?T'1?T'2?T'3?T'4?T'5?(T'6, T'7, T'8, T'9, T'10, T'11)", "a.T'0.T'1.T'2.T'3.T'4.T'5.(T'6, T'7, T'8, T'9, T'10, T'11)", "Q"))
}

func TestTranslateBoths(t *testing.T) {
	for process, want := range map[string]string{
		"a?(x@@y) -> Q":                   here("a?(x@@y)", "a.x", "Q"),
		"a$(x@@y@@z) -> Q":                here("a$(x@@y@@z)", "a.x", "Q"),
		"a?(x@@(y@@z)) -> Q":              here("a?(x@@(y@@z))", "a.x", "Q"),
		"a?((x, y)@@z) -> Q":              here("a?((x, y)@@z)", "a.(x, y)", "Q"),
		"a?((x@@y, <z@@(u, v)>)@@w) -> Q": here("a?((x@@y, <z@@(u, v)>)@@w)", "a.(x, <z>)", "Q"),
		"a?(_@@_)?_ -> Q":                 here("a?(T'0@@T'1)?T'2", "a.T'0.T'2", "Q"),
		"a?((x.y@@z).w) -> Q":             here("a?((x.y@@z).w)", "a.(x.y.w)", "Q"),
		// The expressions of outputs are not patterns.
		"(a@@b)!(x@@y) -> Q": here("(a@@b)!(x@@y)", "(a@@b).(x@@y)", "Q"),
	} {
		wantProcess(t, process, want)
	}
}

func TestTranslateDeclarations(t *testing.T) {
	wantBody(t, "P(_, x@@1) = STOP", "P(_, x@@1) = T'stop")
	wantBody(t, "(P, _) = (STOP, SKIP)", "(P, _) = (T'stop, T'skip)")
	wantBody(t, "P :: (Eq a) => (a) -> {Proc}\nP(x) = {STOP}", "P :: (Eq a) => (a) -> {Proc}\nP(x) = {T'stop}")
	wantBody(t, "P(0) = STOP\nP(n) = SKIP ; P(n-1)", "P(0) = T'stop\nP(n) = T'skip ; P(n-1)")
	wantBody(t,
		"P = let\n    Q :: Proc\n    Q = STOP\n    (x, R) = (1, SKIP)\n  within Q ; R",
		"P = let\n    Q :: Proc\n    Q = T'stop\n    (x, R) = (1, T'skip)\n  within Q ; R")
}

// Nothing outside of the sections changes.
func TestTranslateSections(t *testing.T) {
	others := []string{
		"channel tock",
		"A = a?_ -> STOP [] SKIP",
		"datatype D = E.{STOP}",
		"B = STOP /\\ SKIP [> STOP",
		"channel d : D",
		"nametype N = f(SKIP)",
		"C = STOP ||| SKIP",
		"assert A [T= STOP",
		"assert STOP \\ s :[deadlock free]",
	}
	src := lines(others[0], others[1], "Timed (g)", "  P = STOP", "  Q = a -> P", "endtimed", others[2], others[3], others[4],
		"Timed (h)", "  R = a -> SKIP", "endtimed", "Timed (g)", "  S = a -> SKIP", "endtimed", others[5], others[6], others[7], others[8])
	wantProgram(t, src, lines(preamble("g", "h", "g"), others[0], others[1], "P = T'stop", "Q = "+hereIn("  ", "0", "a", "a", "P"), others[2], others[3], others[4],
		"R = "+hereIn("  ", "1", "a", "a", "T'skip"), "S = "+hereIn("  ", "2", "a", "a", "T'skip"), others[5], others[6], others[7], others[8]))
}

func TestTranslateManySections(t *testing.T) {
	src := "channel tock"
	want := ""
	for range 12 {
		src += "\nTimed (f)\n  P = STOP\nendtimed"
		want += "\nP = T'stop"
	}
	functions := slices.Repeat([]string{"f"}, 12)
	wantProgram(t, src, preamble(functions...)+"\nchannel tock"+want)
}

// The names of the program may be joined ones, as modules.Expand makes them.
func TestTranslateJoinedNames(t *testing.T) {
	p := source(t, "channel tock\nTimed (M'f)\n  M'P = M'a?_ -> STOP\nendtimed")
	want := source(t, lines(preamble("M'f"), "channel tock", "M'P = "+here("M'a?T'0", "M'a.T'0", "T'stop")))
	got := translate(t, withNames(p, "M'", "M::"))
	if w := withNames(withoutPrimes(want), "M'", "M::"); !syntax.Equal(got, w) {
		t.Errorf("got %+v\nwant %+v", got, w)
	}
}

func TestTranslateUntimedProgram(t *testing.T) {
	for _, src := range []string{
		"P = STOP",
		"P = a?_ -> STOP [] Q /\\ R [> Q [a <-> b] R",
		"channel tock : {1}\nP = tock!1 -> SKIP ||| STOP \\ A",
		"datatype D = A.D | B\nchannel a, b : D\nf(x, _) = let\n  y :: Int\n  y = x\nwithin y\nassert not P [F= Q",
	} {
		p := source(t, src)
		if q := translate(t, p); !slices.Equal(p, q) {
			t.Errorf("Translate(%q) = %s", src, text(q))
		}
	}
	p := withoutPrimes(source(t, "P = T'stop\nT'stop = STOP"))
	if q := translate(t, p); !slices.Equal(p, q) {
		t.Errorf("Translate(%s) = %s", text(p), text(q))
	}
}

func TestTranslateIsIdempotent(t *testing.T) {
	p := translate(t, source(t, section("P = a?_ -> STOP [] SKIP \\ A")))
	if q := translate(t, p); !slices.Equal(p, q) {
		t.Errorf("Translate(%s) = %s", text(p), text(q))
	}
}

// The results of two calls share no memory, and neither shares any with the argument.
func TestTranslateReturnsNewMemory(t *testing.T) {
	for _, src := range []string{"P = STOP", section("P = a?x -> STOP [] Q")} {
		p := source(t, src)
		first, second := translate(t, p), translate(t, p)
		before := slices.Clone(second)
		clear(first)
		clear(p)
		if !slices.Equal(second, before) {
			t.Errorf("Translate(%q) shares memory", src)
		}
	}
}
