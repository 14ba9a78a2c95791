package syntax_test

import (
	"slices"
	"strings"
	"testing"

	"cspcheck/api"
	"cspcheck/syntax"
)

// wantRefused checks that a list of tokens has the given error, at the token with an index or with the zero Pos if it is negative.
func wantRefused(t *testing.T, l []api.Token, index int, want api.Errno) {
	t.Helper()
	l = numbered(l)
	at := api.Pos{}
	if index >= 0 {
		at = l[index].Pos
	}
	p, pos, e := syntax.Parse(l)
	if e != want || pos != at || len(p) != 0 {
		t.Errorf("Parse(%.200s) = %d nodes, %v, error %d, want error %d at %v", shown(l), len(p), pos, e, want, at)
	}
}

// P3.1, ErrInvalid

func TestParseRefusesInvalidTokens(t *testing.T) {
	for _, x := range []api.Token{
		{}, {Kind: 8}, {Kind: 9}, {Kind: -1}, {Str: "a"},
		{Kind: api.TokenOpen, Str: "a"}, {Kind: api.TokenSep, Int: 1}, {Kind: api.TokenClose, Str: ")"}, {Kind: api.TokenClose, Int: -1},
		{Kind: api.TokenName}, {Kind: api.TokenName, Str: "let"}, {Kind: api.TokenName, Str: "a", Int: 1}, {Kind: api.TokenName, Str: "a b"},
		{Kind: api.TokenName, Str: "a::b"}, {Kind: api.TokenName, Str: strings.Repeat("a", api.MaxName+1)},
		{Kind: api.TokenInt, Int: -1}, {Kind: api.TokenInt, Str: "1"}, {Kind: api.TokenKeyword, Str: "deadlock"}, {Kind: api.TokenSymbol, Str: "~"},
	} {
		wantRefused(t, []api.Token{x}, -1, api.ErrInvalid)
		wantRefused(t, slices.Concat(tokens("Open a ="), []api.Token{x}), -1, api.ErrInvalid)
		wantRefused(t, slices.Concat(tokens("Open ) )"), []api.Token{x}, tokens("Close")), -1, api.ErrInvalid)
		wantRefused(t, slices.Concat(tokens("Open a = 1 Close"), []api.Token{x}), -1, api.ErrInvalid)
	}
}

func TestParseTakesAnyPositions(t *testing.T) {
	l := tokens("Open P = a -> P Close")
	p, _, e := syntax.Parse(l)
	if e != api.OK || drawing(p) != "Program (Fun P (Params, Prefix (Name a, Name P)))" {
		t.Errorf("without positions: %s, error %d", drawing(p), e)
	}
	for i := range l {
		l[i].Pos = api.Pos{Line: -i, Col: -7}
	}
	q, _, e := syntax.Parse(l)
	if e != api.OK || !syntax.Equal(p, q) || q[1].Pos != (api.Pos{Line: -1, Col: -7}) {
		t.Errorf("with other positions: %v, error %d", q, e)
	}
}

// P3.1, ErrSyntax

func TestErrorsOfTheChapter(t *testing.T) {
	wantError(t, "P =", 0, 0, api.ErrSyntax)
	wantErrorAt(t, "f(1+2`, x) = 3", api.ErrSyntax)
	wantErrorAt(t, "f(x)`(y) = 3", api.ErrSyntax)
	wantErrorAt(t, "(x) `= 1", api.ErrSyntax)
	wantErrorAt(t, "P = Q [ a == b `<-> c ] R", api.ErrSyntax)
}

func TestTokensThatEndTooEarly(t *testing.T) {
	all := tokens("Open P ( x , < y > ) = let Open ( x , y ) = c ? x : { 1 .. 2 } ! ( y ) -> Q [ a . b <-> c ] R Sep S = if a then b else c Close within \\ z @ f ( z ) Sep f :: ( Eq a ) => ( a , b ) -> (| c => d |) Close")
	for i := range all {
		wantRefused(t, all[:i], -1, api.ErrSyntax)
	}
	if _, _, e := syntax.Parse(all); e != api.OK {
		t.Errorf("error %d", e)
	}
	wantRefused(t, nil, -1, api.ErrSyntax)
}

func TestTokensOutOfPlace(t *testing.T) {
	for src, index := range map[string]int{
		"Close":                            0,
		"a = 1":                            0,
		"Open Close":                       1,
		"Open Sep a = 1 Close":             1,
		"Open a = 1 Sep Close":             5,
		"Open a = 1 Sep Sep b = 1 Close":   5,
		"Open a = 1 Close Close":           5,
		"Open a = 1 Close Open":            5,
		"Open a = ( 1 Sep b = 2 Close":     5,
		"Open a = ( 1 Close":               5,
		"Open a = let Open Close within 1": 5,
		"Open a = let b = 1 within 1":      4,
		"Open a = let Open b = 1 within 1": 8,
		"Open a = let Open b = 1 Close 1":  9,
		"Open module M x = 1 endmodule":    3,
		"Open Open a = 1 Close Close":      1,
	} {
		wantRefused(t, tokens(src), index, api.ErrSyntax)
	}
}

// wantErrors checks that each source has a syntax error at its mark.
func wantErrors(t *testing.T, sources ...string) {
	t.Helper()
	for _, src := range sources {
		wantErrorAt(t, src, api.ErrSyntax)
	}
}

func TestErrorsInFunctionsAndBinds(t *testing.T) {
	wantErrors(t, "`", "f(`) = 1", "f(x;`) = 1", "f(x,`) = 1", "f(x `y) = 1", "f(x) `x = 1", "f(x) `. y = 1", "f(x) `:: Int", "f = `= 1", "f = 1 `= 2", "f = 1 `g = 2", "f(x`", "f = 1\ng = h `= 2")
	wantErrors(t, "`if a then b else c", "`not x = 1", "`\\ x @ x = 1", "`[] x:S @ P = 1", "`) = 1", "`-> = 1", "`= 1", "`within = 1", "x.`= 1", "(x`", "1 `", "(x, y)`")
}

func TestErrorsInOtherDeclarations(t *testing.T) {
	wantErrors(t, "datatype `= A", "datatype T `A", "datatype T = `1", "datatype T = A `, B", "datatype T = A | `| B", "datatype T = A.`| B", "datatype T = A`::B", "datatype T = A.b `-> c", "datatype T = A.b `@@ c", "datatype T = A.`not b", "datatype `true = A", "datatype T = `")
	wantErrors(t, "nametype `1 = A", "nametype T `: A", "nametype T = `", "nametype T`(x) = A")
	wantErrors(t, "channel `1", "channel a, `: T", "channel a `b", "channel a : `", "channel a`.b", "channel a : T `: T", "channel a`::b")
	wantErrors(t, "instance I `(M)", "instance `1 = M", "instance I = `1", "instance I = M(`)", "instance I = M(1;`)", "instance I = M `:: N", "instance I = M(1) `(2)", "instance I `")
	wantErrors(t, "module `1\n  x = 1\nendmodule", "module M(`)\n  x = 1\nendmodule", "module M(a, `1)\n  x = 1\nendmodule", "module M `=\n  x = 1\nendmodule",
		"module M\n`endmodule", "module M\n  x = 1\nexports\n`endmodule", "module M\n  x = 1\n`endtimed", "module M\n  x = 1\n`y = 1", "module M\n  x = 1\nexports\n  y = 1\n`exports\n  z = 1\nendmodule", "module M\n  x = 1\nendmodule `x", "module M\n  x = 1`")
	wantErrors(t, "Timed `f\n  x = 1\nendtimed", "Timed (`1)\n  x = 1\nendtimed", "Timed (f`, g)\n  x = 1\nendtimed", "Timed (f)\n`endtimed", "Timed (f)\n  x = 1\n`endmodule")
}

func TestErrorsInAssertions(t *testing.T) {
	wantErrors(t, "assert P `", "assert P `= Q", "assert `[T= Q", "assert P [T= `", "assert P ::`[deadlock free]", "assert P :`deadlock", "assert P :[ `]", "assert P :[`free]", "assert `:[deterministic]", "assert not `",
		"assert P :[deadlock `]", "assert P :[deadlock `deadlock]", "assert P :[divergence `has]", "assert P :[deterministic `free]", "assert P :[has `free]", "assert P :[has trace `a]", "assert P :[`not deterministic]", "assert P :[`Deterministic]",
		"assert P :[has trace]`", "assert P :[has trace] `<a>", "assert P :[has trace]: `", "assert P [T= Q `[T= R", "assert P `<- Q", "assert P :[deadlock free] `: P", "assert P [T= `assert", "assert P [T= Q `:[deadlock free]")
}

func TestErrorsInSignatures(t *testing.T) {
	wantErrors(t, "f :: `", "f :: `1", "f :: a `b", "f :: a ->`", "f :: (`)", "f :: (a,`)", "f :: (a`", "f :: <a `", "f :: <`>", "f :: {a `> }", "f :: (| a `|)", "f :: (| a => b `, c |)", "f :: (| `|)", "f :: (| a `-> b => c |)",
		"f :: a.`", "f :: a =>`", "f :: a `= 1", "f :: A`::b", "f(x) `:: a", "f :: a `::b", "f :: a `+ b", "f :: Int`(a)", "f :: `{| a |}", "f :: `STOP", "f :: `_")
	wantErrors(t, "f :: (Eq `A) => a", "f :: (Eq a, Ord `B) => a", "f :: (Eq a, Ord `) => a", "f :: (Eq a, `(b)) => a", "f :: (Eq a,`) => a", "f :: (Eq a `b) => a", "f :: (Eq a) `-> a", "f :: (Eq a) => `", "f :: (Eq a) `", "f :: (Eq a) => (Ord `b) => a", "f :: (a `1) => a", "f :: (Eq a, Ord `1) => a")
}

func TestErrorsInExpressions(t *testing.T) {
	for _, src := range []string{
		"`", "`)", "`then", "`+ 1", "`== 1", "`? x", "`within 1", "`= 1", "`<- 1", "`|] 1", "`.. 1", "`exports x = 1", "`assert P", "`channel a", "`&", "`*1", "`: a", "`::",
		"a `b", "a `1", "a `true", "a `STOP", "a `{}", "a `= b", "a `, b", "a `: b", "a `<- b", "a `.. b", "a `then b", "a `# b", "a `not b", "a `if b then c else d", "a `@ b", "a `=> b", "a `<-> b", "a `|| b", "a `| b", "a `)", "a `|> b", "a `]",
		"a + `", "a + `* b", "a + `not b", "a . `.. b", "a - `> b", "a or `or b", "a @@ `@ b", "a ; `", "a \\ `)", "a < `= b", "a [> `> b", "a /\\ `/ b", "a |~| `) b", "a ||| `, b", "a & `& b", "a [] `] b",
		"- `", "- `+ 1", "# `not a", "not `", "not `+ 1", "- `not a", "a == b `== c", "a < b `> c", "a <= b `!= c", "not a < b `< c", "a and b < c `>= d",
		"M::`", "M::`1", "M::x`::y", "M::`STOP", "1`::x", "(x)`::y",
		"(`", "(`)", "(a `", "(a;`)", "(a,`)", "(a, b `]", "(a `|)", "(a `}",
		"<`", "<a `", "<a,`>", "<a, b `.. c>", "<a ..`", "<a .. b `, c>", "<a .. b `.. c>", "<a | `>", "<a | b `| c>", "<a `]", "<a .. `.. >",
		"{`", "{a `", "{a,`}", "{a ..`}", "{a, b `.. c}", "{a .. b `, c}", "{a | `}", "{a | b `| c}", "{a `|}", "{a | b <- c `<- d}", "{a | b `= c}", "{a | b : c `: d}", "{a | b, `}", "{a `=> b}",
		"{|`", "{|a `", "{|a,`|}", "{|a `.. b|}", "{|a | `|}", "{|a `}", "{|a | b `}",
		"(| `", "(| a `|)", "(| a => `|)", "(| a => b `=> c |)", "(| a => b, `|)", "(| a `, b => c |)", "(| a => b `)", "(| `, |)", "(| a => b `| c |)",
		"chase`", "chase `P", "chase(`)", "chase(P`, Q)", "chase(P `", "prioritise(`)", "prioritise(P`)", "prioritise(P,`)", "prioritise(P, Q`, R)", "prioritise `P", "prioritise(P `|)",
		"f(`", "f(a `", "f(a,`)", "f(a `b)", "f(`, a)", "f(a `=> b)", "P[[`]]", "P[[a `]]", "P[[a <- `]]", "P[[a <- b, `]]", "P[[a <- b | `]]", "P[[a <- b | c `| d]]", "P[[a <- b `<- c]]", "P[[a `== b <- c]]", "P[[a <- b `== c]]", "P[[`not a <- b]]", "P[[a <- `if b]]", "P[[a `-> b]]", "P[[a `: b]]", "P[[a <- b `] ]",
	} {
		wantErrorAt(t, "f = "+src, api.ErrSyntax)
	}
}

func TestErrorsInProcesses(t *testing.T) {
	for _, src := range []string{
		"\\ `@ x", "\\ x `x @ 1", "\\ x, `@ 1", "\\ x `= 1", "\\ x @ `", "\\ `not x @ 1", "\\ x `-> y @ 1", "\\ x `== y @ 1",
		"if `then 1 else 2", "if a `else 2", "if a then `else 2", "if a then 1 `", "if a then 1 else `", "if a `, b then 1 else 2",
		"let x = 1 `", "let x = 1\n  `in x", "let\n`within x", "let x = 1 within `",
		"[] `@ P", "[] x `P", "[] x:`@ P", "[] x:S, `@ P", "[] x:S @ `", "[] x:S `: T @ P", "[] x:S `P", "[] x:S `-> P", "[] x:S `& b @ P", "[] x `= S @ P", "[] x <- S `; T @ P", "|~| `|~| x:S @ P", "||| x:S @ `", "; x:S `", "[] x:`if b then S else T @ P",
		"|| x:S @ `P", "|| x:S @ [ `] P", "|| x:S @ [A `|| B] P", "|| x:S @ [A] `", "|| x:S `[A] P", "[|`|] x:S @ P", "[|A`|> x:S @ P", "[|A|] `@ P", "[|A|] x:S `P", "[+A`|] x:S @ P", "[+A+] `@ P",
		"P [|`|] Q", "P [|A `Q", "P [|A`, B|] Q", "P [|A|] `", "P [|A|> `", "P [|A `||] Q", "P [ `] Q", "P [A `] Q", "P [A || `] Q", "P [A || B `|| C] Q", "P [A || B] `", "P [A || B `<-> C] Q", "P [A `, B <-> C] Q",
		"P [a <-> `] Q", "P [a <-> b `|| c] Q", "P [a <-> b, `] Q", "P [a <-> b, c `] Q", "P [a <-> b, c `== d <-> e] Q", "P [a <-> b `== c] Q", "P [a <-> `not b] Q", "P [a <-> b, `not c <-> d] Q", "P [a <-> b] `", "P [a <-> b `<-> c] Q",
		"P [not a `<-> b] Q", "P [a @@ b `<-> c] Q", "P [a -> b `<-> c] Q", "P [a & b `<-> c] Q", "P [if a then b else c `<-> d] Q", "P [\\ x @ c `<-> d] Q", "P [a \\ b `<-> c] Q", "P [a [] b `<-> c] Q", "P [a or b `<-> c] Q",
		"P [+A `] Q", "P [+`+] Q", "P [+A+] `", "P [+A`, B+] Q",
		"a -> `", "a -> `-> P", "c?x `", "c?x `; P", "c?x `P", "c?x `. y -> P", "c?`-> P", "c!`-> P", "c$`-> P", "c?x:`-> P", "c?x:a `. b -> P", "c?x:a `== b -> P", "c?x:a`^b -> P", "c!x`:a -> P", "c!x `+ 1 -> P", "c!`-1 -> P", "c?`-1 -> P", "c!`not x -> P", "c?x`(1) -> P", "c!x`(1) -> P", "c!x`[[a <- b]] -> P",
		"c?x:a`:b -> P", "c?x `& P", "a == b -> `", "c?x -> `", "a & `", "a & `& b", "a -> b?x `",
	} {
		wantErrorAt(t, "f = "+src, api.ErrSyntax)
	}
}

// notPatterns are expressions in forms of Primary that are not patterns.
func notPatterns() []string {
	return []string{
		"M::x", "STOP", "SKIP", "DIV", "(1+2)", "(x*y)", "(not x)", "(x or y)", "(x == y)", "(-x)", "(- -1)", "(#s)", "(f(x))", "(P[[a <- b]])", "(x -> P)", "(b & P)", "(P [] Q)", "(if a then b else c)", "(\\ x @ x)",
		"(let x = 1 within x)", "<1..>", "<1..2>", "<x | x <- s>", "{1..2}", "{x, y}", "{x | x <- s}", "{||}", "{|c|}", "(| |)", "(|1 => 2|)", "chase(P)", "prioritise(P, Q)",
		"(x, 1+2)", "<x, M::y>", "{M::x}", "(x.STOP)", "(x@@M::y)", "<(x, < -y>)>", "(x.y.(z+1))", "(x^y)", "(x^<y>^z)", "(_^x)", "(x^_)", "(x^(<y>^z))", "((<x>^y)^(z^<u>))", "(<x>^1)", "(<x>^(y, z))", "(<x>^{y})", "(<x>^true)", "(<M::y>^x)", "(M::x^<y>)", "(<x>^-1)", "(<x>^(y.z))", "(<x>^<1..2>)", "(<x>^(y@@z))",
	}
}

// primaryPatterns are patterns in forms of Primary.
func primaryPatterns() []string {
	return []string{
		"(x)", "_", "0", "(-1)", "(-(1))", "true", "false", "(x, y)", "(x, (y, _))", "<>", "<x>", "<x, 1, <y>>", "{}", "{x}", "{(x, -1)}", "(x.y)", "(x.y.z)", "(x.(y.z))", "(x@@y)", "(x@@(y, z)@@_)", "(x.y@@z)",
		"(x^<y>)", "(<x>^y)", "(<x>^_)", "(<x>^<y>)", "(<x>^y^<z>)", "(<x>^<y>^z^<>^<u>)", "(<x>^(y^<z>))", "((<x>^<y>)^(z))", "(<x>^((y)^<z>))", "(<<x>^y>^z)", "(<>^_)", "(x^<y>.z)", "({<x>^y})",
	}
}

func TestPatternsAreCheckedWhenTheyAreComplete(t *testing.T) {
	for _, x := range notPatterns() {
		wantErrors(t,
			"f("+x+"`) = 1", "f("+x+"`, y) = 1", "f(y, "+x+"`) = 1",
			x+" `= 1",
			"f = \\ "+x+" `@ 1", "f = \\ "+x+"`, y @ 1", "f = \\ y, "+x+" `@ 1",
			"f = [] "+x+" `: S @ P", "f = [] y:S, "+x+" `<- S @ P", "f = <1 | "+x+" `<- S>", "f = {1 | y:S, "+x+" `: S}", "f = {|c | "+x+" `: S|}", "f = P[[a <- b | "+x+" `<- S]]",
			"f = c?"+x+" `-> P", "f = c?"+x+"`:S -> P", "f = c$"+x+"`!y -> P", "f = c!y$"+x+" `-> P", "f = c?"+x+"`?y -> P", "f = c?"+x+"`",
		)
	}
	for _, x := range primaryPatterns() {
		for _, src := range []string{"f(" + x + ", y) = 1", "f = \\ " + x + ", y @ 1", "f = [] " + x + " : S, y <- T @ P", "f = <1 | y <- S, " + x + " <- S>", "f = P[[a <- b | " + x + " <- S]]", "f = c?" + x + "$" + x + ":S!y -> P"} {
			source(t, src)
		}
		if x != "(x)" {
			source(t, x+" = 1")
		}
	}
}

func TestPatternsWithoutParentheses(t *testing.T) {
	wantErrors(t,
		"x + 1 `= 2", "- x `= 2", "# x `= 2", "x * 2 . y `= 2", "f(y)`[[a <- b]] = 2", "x `== y = 2", "x `or y = 2", "x `; y = 2", "x `-> y = 2",
		"f = \\ x + 1 `@ 2", "f = \\ x `== 1 @ 2", "f = \\ - x`, y @ 2", "f = \\ x^y `@ 2", "f = \\ g(x) `@ 2",
		"f(x == 1`, y) = 2", "f(x -> y`) = 2", "f(if a then b else c`) = 2", "f(\\ x @ x`) = 2", "f(x ; y`) = 2", "f(x, y + 1`) = 2",
		"f = [] x == y `: S @ P", "f = [] not x `<- S @ P", "f = [] x and y `: S @ P", "f = {x | x < y `<- S}", "f = {x | - x `<- S}", "f = <x | x^y `<- S>",
	)
}

// P3.1, ErrOverflow

// nine returns nine texts with a separator, and a mark before the last one.
func nine(text, separator string) string {
	return strings.Repeat(text+separator, api.MaxArity) + "`" + text
}

func TestShortLists(t *testing.T) {
	for _, src := range []string{
		"f(" + nine("x", ",") + ") = 1", "f = (" + nine("x", ", ") + ")", "(" + nine("x", ",") + ") = p", "f = g(" + nine("1", ",") + ")", "instance I = M(" + nine("1", ",") + ")",
		"module M(" + nine("p", ",") + ")\n  x = 1\nendmodule", "datatype T = A." + nine("{1}", "."), "datatype T = B | A." + nine("x", ".") + " | C", "f = c" + nine("?x", "") + " -> P", "f = c" + strings.Repeat("?x$y!z", 2) + "?x$y`!z -> P",
		"f = " + nine("x", "."), nine("x", ".") + " = 1", "channel c : " + nine("T", "."), "f(" + nine("x", ".") + ") = 1", "f = (x.x.x).(x).x.x.x.x.`x", "f = (x.x.x.x.x.x.x.x).`x", "f = ((x.x).x.x.x.x.x.x).`x.x",
		"f :: (" + nine("a", ",") + ")", "f :: (" + nine("a", ",") + ") -> b", "f :: " + nine("a", "."), "f :: ((a.a.a).a.a.a.a).a.`a", "f :: <" + nine("A", ".") + ">",
	} {
		wantErrorAt(t, src, api.ErrOverflow)
	}
	for _, src := range []string{
		"f(1,2,3,4,5,6,7,8) = (1,2,3,4,5,6,7,8)", "f = g(1,2,3,4,5,6,7,8)", "instance I = M(1,2,3,4,5,6,7,8)", "module M(a,b,c,d,e,f,g,h)\n  x = 1\nendmodule", "datatype T = A.1.2.3.4.5.6.7.8",
		"f = c?x?x?x?x?x?x?x?x -> P", "f = 1.2.3.4.5.6.7.8", "f = 1.(2.3.4.5.6.7.8.9)", "f = (1.2.3.4).(5.6.7.8.9)", "f :: (a,b,c,d,e,f,g,h) -> i", "f :: a.b.c.d.e.f.g.h", "f :: a.(b.c.d.e.f.g.h.i)",
	} {
		source(t, src)
	}
}

func TestOtherListsAreNotLimited(t *testing.T) {
	many := strings.Repeat("x,", 20) + "x"
	for _, src := range []string{
		"f = <" + many + ">", "f = {" + many + "}", "f = {|" + many + "|}", "f = (|" + strings.Repeat("1=>2,", 20) + "1=>2|)", "f = \\ " + many + " @ 1", "f = [] " + many + " @ P", "f = {x | " + many + "}", "f = P[[" + strings.Repeat("a<-b,", 20) + "a<-b|" + many + "]]",
		"f = P[" + strings.Repeat("a<->b,", 20) + "a<->b] Q", "channel " + many, "datatype T = A" + strings.Repeat("|A", 20), "f :: (" + strings.Repeat("Eq a,", 20) + "Eq a) => a", "f = g(1)" + strings.Repeat("(1)", 20), "f = <x>" + strings.Repeat("^<x>", 20), "f = x" + strings.Repeat("@@x", 20), "f :: a" + strings.Repeat("=>a", 20),
		"f = a" + strings.Repeat(" -> a", 20), "f :: a" + strings.Repeat(" -> a", 20),
	} {
		wantBack(t, source(t, src))
	}
}

func TestTheFirstItemBeyondTheLimit(t *testing.T) {
	for _, src := range []string{
		"f = g(1,2,3,4,5,6,7,8,`9,10,11)", "f = 1.2.3.4.5.6.7.8.`9.10.11", "f = g(1,2,3,4,5,6,7,8,`9)\ng = (1,2,3,4,5,6,7,8,9)", "f = (1,2,3,(1,2,3,4,5,6,7,8,`9),4,5,6,7,8,9)",
		"f = g(1,2,3,4,5,6,7,8,`(1,2,3,4,5,6,7,8,9))", "f = 1.2.3.4.5.6.7.8.`<g(1,2,3,4,5,6,7,8,9)>.9", "f = (1,2,3,4,5,6,7,8,`9).2.3.4.5.6.7.8.9",
		"f = (1,2,3,4,5,6,7,8,x `+ 1)", "f = (1,2,3,4,5,6,7,8,(`9))", "f = (1,2,3,4,5,6,7,8,`-9)", "f = 1.2.3.4.5.6.7.8.x`^y", "f = 1.2.3.4.5.6.7.8.g`(1)", "f = g(1,2,3,4,5,6,7,8,c?x `-> P)", "datatype T = A.1.2.3.4.5.6.7.8.x`+1",
		"f :: (a,b,c,d,e,f,g,h,i `-> j)", "f :: a.b.c.d.e.f.g.h.(i `=> j)", "f :: (a,b,c,d,e,f,g,h,`<i>)",
	} {
		wantErrorAt(t, src, api.ErrOverflow)
	}
}

func TestErrSyntaxComesBeforeErrOverflow(t *testing.T) {
	wantErrors(t, "f = g(1,2,3,4,5,6,7,8,9 `]", "f = (1,2,3,4,5,6,7,8,9)\ng = `", "f = 1.2.3.4.5.6.7.8.9 `)")
}

// P3.1, ErrFull

// deep returns a source whose tree is nested so deep, with a Name at the bottom: the Program, the Fun and so many Negs.
func deep(depth int) string {
	return "f = " + strings.Repeat("-(", depth-3) + "x" + strings.Repeat(")", depth-3)
}

// wide returns a source whose tree has so many nodes: the Program, a Fun, its Params, a Set and its elements.
func wide(nodes int) string {
	const pair = "#x,"
	last := "x}"
	if nodes%2 == 0 {
		last = "#x}"
	}
	return "f = {" + strings.Repeat(pair, (nodes-5)/2) + last
}

func TestLimitsOfTrees(t *testing.T) {
	p := source(t, deep(api.MaxNest))
	wantBack(t, p)
	wantError(t, deep(api.MaxNest+1), 0, 0, api.ErrFull)
	p = source(t, wide(api.MaxNodes))
	if len(p) != api.MaxNodes {
		t.Errorf("%d nodes", len(p))
	}
	wantBack(t, p)
	wantError(t, wide(api.MaxNodes+1), 0, 0, api.ErrFull)
	wantErrorAt(t, wide(api.MaxNodes+1)+"\ng = (1,2,3,4,5,6,7,8,`9)", api.ErrOverflow)
	wantErrors(t, deep(api.MaxNest+1)+"\ng = 1 `1")
	source(t, "f = "+strings.Repeat("(", 5000)+"x"+strings.Repeat(")", 5000))
	source(t, "f = 1"+strings.Repeat("+1", api.MaxNest-3))
	wantError(t, "f = 1"+strings.Repeat("+1", api.MaxNest-2), 0, 0, api.ErrFull)
}

func TestParseTakesLongAndDeepLists(t *testing.T) {
	const size = 1 << 16
	for _, x := range [][2]string{{"(", ")"}, {"let Open a =", "Close within a"}, {"not", ""}, {"a +", ""}} {
		l := slices.Concat(tokens("Open f ="), slices.Repeat(tokens(x[0]), size), tokens("a"), slices.Repeat(tokens(x[1]), size), tokens("Close"))
		p, pos, e := syntax.Parse(l)
		want := api.ErrFull
		if x[0] == "(" {
			want = api.OK
		}
		if e != want || pos != (api.Pos{}) || (e == api.OK) != (len(p) == 4) {
			t.Errorf("%d times %s: %d nodes, error %d at %v", size, x[0], len(p), e, pos)
		}
		wantRefused(t, l[:len(l)-1], -1, api.ErrSyntax)
	}
}

// P3.2

func TestSourceReturnsTheFirstError(t *testing.T) {
	wantError(t, "f = 007", 1, 5, api.ErrSyntax)
	wantError(t, "f = ) ~", 1, 7, api.ErrSyntax)
	wantError(t, "f = ) 9223372036854775808", 1, 7, api.ErrOverflow)
	wantError(t, " f = )", 1, 2, api.ErrLayout)
	wantError(t, "f = )\ng = let\nx = 1", 3, 1, api.ErrLayout)
	wantError(t, "f = ) let", 1, 7, api.ErrLayout)
	wantError(t, strings.Repeat(" ", api.MaxSource+1), 0, 0, api.ErrFull)
	wantError(t, "f = "+strings.Repeat("(", api.MaxTokens), 1, api.MaxTokens+3, api.ErrFull)
	wantError(t, "", 0, 0, api.ErrSyntax)
	wantError(t, "-- nothing", 0, 0, api.ErrSyntax)
}

func TestSourceIsParseOfItsTokens(t *testing.T) {
	src := lines("f(x) = let y = x", "           z = y", "  within <y, z>", "channel c : {0..1}", "assert f(1) [FD= c!1 -> STOP")
	p, _, e := syntax.Parse(laidOut(t, src))
	q, pos, f := syntax.Source(src)
	if e != api.OK || f != api.OK || pos != (api.Pos{}) || !slices.Equal(p, q) || len(p) == 0 {
		t.Errorf("Parse %v, error %d; Source %v, error %d", p, e, q, f)
	}
}
