package syntax_test

import (
	"strings"
	"testing"

	"cspcheck/api"
	"cspcheck/syntax"
)

// wantFormat checks the text of a source, without its last line feed, and that this text has the same tree and the same text.
func wantFormat(t *testing.T, src, want string) {
	t.Helper()
	p := source(t, src)
	if got := syntax.Format(p); got != want+"\n" {
		t.Errorf("Format of %q:\n%s\nwant\n%s", src, got, want)
	}
	wantBack(t, p)
}

// P3.4

func TestFormatOfTheChapter(t *testing.T) {
	wantFormat(t, "f(x)=x+1", "f ( x ) = x + 1")
}

func TestFormatOfDeclarations(t *testing.T) {
	for src, want := range map[string]string{
		"f=1\n\n--\ng=2":                    "f = 1\ng = 2",
		"f(x,y.z,<a>^b)=1":                  "f ( x , y . z , < a > ^ b ) = 1",
		"(x,y)=a->P":                        "( x , y ) = a -> P",
		"x.y=a->P;Q":                        "( x . y ) = ( a -> P ) ; Q",
		"<x>^y@@z=p":                        "( ( < x > ^ y ) @@ z ) = p",
		"-1=p":                              "( - 1 ) = p",
		"{x.y}=p":                           "{ x . y } = p",
		"datatype T=A|B.x.y|C.(x.y).x^y.-1": "datatype T = A | B . x . y | C . ( x . y ) . ( x ^ y ) . ( - 1 )",
		"nametype T=x.y":                    "nametype T = x . y",
		"nametype T=if a then b else c":     "nametype T = if a then b else c",
		"channel a,b":                       "channel a , b",
		"channel a,b:x.y":                   "channel a , b : x . y",
		"instance I=M":                      "instance I = M",
		"instance I=M(1,a->P,x>y)":          "instance I = M ( 1 , a -> P , x > y )",
		"assert P[T=Q":                      "assert P [T= Q",
		"assert P[F=Q":                      "assert P [F= Q",
		"assert not P[FD=Q[]R":              "assert not P [FD= Q [] R",
		"assert (not x)[T=not y":            "assert ( not x ) [T= not y",
		"assert not(not x)[T=(not y)":       "assert not ( not x ) [T= not y",
		"assert not not x:[deterministic]":  "assert not ( not x ) : [ deterministic ]",
		"assert (not x)and y[T=z":           "assert ( not x ) and y [T= z",
		"assert P:[deadlock free]":          "assert P : [ deadlock free ]",
		"assert not P:[divergence free]":    "assert not P : [ divergence free ]",
		"assert P:[deterministic]":          "assert P : [ deterministic ]",
		"assert P:[has trace]:<a>":          "assert P : [ has trace ] : < a >",
		"assert not P:[has trace]:x^y":      "assert not P : [ has trace ] : x ^ y",
		"assert if a then b else c[T=\\x@y": "assert if a then b else c [T= \\ x @ y",
	} {
		wantFormat(t, src, want)
	}
}

func TestFormatOfTypes(t *testing.T) {
	for src, want := range map[string]string{
		"a":                      "a",
		"<a>":                    "< a >",
		"<a->b>":                 "< a -> b >",
		"{a.b}":                  "{ a . b }",
		"(|a=>b->c|)":            "(| a => b -> c |)",
		"(|a.b=>c=>d|)":          "(| ( a . b ) => c => d |)",
		"(| (a->b)=>c|)":         "(| ( a -> b ) => c |)",
		"(a.b,c->d)":             "( a . b , c -> d )",
		"a.b.c":                  "( a . b ) . c",
		"a.(b.c)":                "a . ( b . c )",
		"a=>b=>c":                "a => ( b => c )",
		"a.b=>c":                 "( a . b ) => c",
		"a->b->c":                "a -> b -> c",
		"(a->b)->c":              "( a -> b ) -> c",
		"a.b->c.d":               "( a . b ) -> c . d",
		"(a=>b)->c=>d":           "( a => b ) -> c => d",
		"(a,b.c,d->e)->f":        "( a , b . c , d -> e ) -> f",
		"(a,b)->(c,d)":           "( a , b ) -> ( c , d )",
		"((a,b)->c).d":           "( ( a , b ) -> c ) . d",
		"a=>((b,c)->d)":          "a => ( ( b , c ) -> d )",
		"<a>.{b}.(c,d).(|e=>f|)": "( ( < a > . { b } ) . ( c , d ) ) . (| e => f |)",
		"(Eq a)=>a":              "( Eq a ) => a",
		"(Eq a,Ord b)=>(a,b)->c": "( Eq a , Ord b ) => ( a , b ) -> c",
		"(Eq a)=>a=>b":           "( Eq a ) => a => b",
	} {
		wantFormat(t, "f::"+src, "f :: "+want)
	}
}

func TestFormatOfPrimaries(t *testing.T) {
	for src, want := range map[string]string{
		"((x))":                  "x",
		"M::x":                   "M :: x",
		"0":                      "0",
		"9223372036854775807":    "9223372036854775807",
		"(true,false,_)":         "( true , false , _ )",
		"(STOP,SKIP,DIV)":        "( STOP , SKIP , DIV )",
		"<>":                     "< >",
		"{}":                     "{ }",
		"{||}":                   "{| |}",
		"(| |)":                  "(| |)",
		"(x+1,a->P)":             "( x + 1 , a -> P )",
		"<x,y>":                  "< x , y >",
		"<x+1,(a>b),f(x),not b>": "< ( x + 1 ) , ( a > b ) , ( f ( x ) ) , ( not b ) >",
		"<(x,y),<z>,{|c|}>":      "< ( x , y ) , < z > , {| c |} >",
		"<if a then b else c>":   "< ( if a then b else c ) >",
		"<x+1..>":                "< ( x + 1 ) .. >",
		"<1..>":                  "< 1 .. >",
		"< -1..#s>":              "< ( - 1 ) .. ( # s ) >",
		"<x+1|x<-s>":             "< ( x + 1 ) | x <- s >",
		"<x|x.y<-s,x>":           "< x | ( x . y ) <- s , x >",
		"{x+1,a>b}":              "{ x + 1 , a > b }",
		"{ -1..#s}":              "{ - 1 .. # s }",
		"{x+1|x:s,x>0}":          "{ x + 1 | x <- s , ( x > 0 ) }",
		"{|c.x,d|}":              "{| c . x , d |}",
		"{|c.x|x<-{0..3}|}":      "{| c . x | x <- { 0 .. 3 } |}",
		"(|x+1=>a->P,2=>b|)":     "(| x + 1 => a -> P , 2 => b |)",
		"chase(P[]Q)":            "chase ( P [] Q )",
		"prioritise(P[]Q,x^y)":   "prioritise ( P [] Q , x ^ y )",
		"(|~| x:S @ P)":          "|~| x <- S @ P",
		"{ -1}":                  "{ - 1 }",
		"a- -b":                  "a - ( - b )",
	} {
		wantFormat(t, "f="+src, "f = "+want)
	}
}

func TestFormatOfOperators(t *testing.T) {
	for _, level := range levels {
		for _, x := range level {
			wantFormat(t, "f = a "+x[0]+" b", "f = a "+x[0]+" b")
			wantFormat(t, "f = (a "+x[0]+" b) "+x[0]+" (c,d)", "f = ( a "+x[0]+" b ) "+x[0]+" ( c , d )")
			wantFormat(t, "f = a "+x[0]+" (b "+x[0]+" c)", "f = a "+x[0]+" ( b "+x[0]+" c )")
			wantFormat(t, "f = <a> "+x[0]+" (if b then c else d)", "f = < a > "+x[0]+" ( if b then c else d )")
		}
	}
	for src, want := range map[string]string{
		"- -x":                          "- ( - x )",
		"#x^y":                          "( # x ) ^ y",
		"not not x":                     "not ( not x )",
		"not x==y":                      "not ( x == y )",
		"not <x>":                       "not < x >",
		"g()":                           "g ( )",
		"g(x+1,a->P)":                   "g ( x + 1 , a -> P )",
		"g(1)(2)":                       "( g ( 1 ) ) ( 2 )",
		"(x+y)(2)":                      "( x + y ) ( 2 )",
		"(x,y)(2)":                      "( x , y ) ( 2 )",
		"P[[a<-b]]":                     "P [[ a <- b ]]",
		"f(1)[[a.1<-b.2,c<-d|x:S,x>1]]": "( f ( 1 ) ) [[ ( a . 1 ) <- ( b . 2 ) , c <- d | x <- S , ( x > 1 ) ]]",
		"\\x,<y>^z@w[]u":                "\\ x , ( < y > ^ z ) @ w [] u",
		"if P;Q then a->P else \\x@y":   "if P ; Q then a -> P else \\ x @ y",
	} {
		wantFormat(t, "f = "+src, "f = "+want)
	}
}

func TestFormatOfProcesses(t *testing.T) {
	for src, want := range map[string]string{
		"P[|A[]B|]Q":                  "P [| A [] B |] Q",
		"P[|A|>Q":                     "P [| A |> Q",
		"P[A[]C||B]Q":                 "P [ A [] C || B ] Q",
		"P[+A+]Q":                     "P [+ A +] Q",
		"P[a.1<->b,c<->(d==e)]Q":      "P [ ( a . 1 ) <-> b , c <-> ( d == e ) ] Q",
		"P;Q[|A[]B|>R;S":              "( P ; Q ) [| A [] B |> ( R ; S )",
		"P;Q[+A[]B+]R;S":              "( P ; Q ) [+ A [] B +] ( R ; S )",
		"P;Q[|A[]B|]R;S":              "( P ; Q ) [| A [] B |] ( R ; S )",
		"P;Q[A[]B||C[]D]R;S":          "( P ; Q ) [ A [] B || C [] D ] ( R ; S )",
		"P;Q[a.1<->b.2,c.3<->d.4]R;S": "( P ; Q ) [ ( a . 1 ) <-> ( b . 2 ) , ( c . 3 ) <-> ( d . 4 ) ] ( R ; S )",
		"P[|A|]Q[|B|]R":               "( P [| A |] Q ) [| B |] R",
		"P[|A|](Q[|B|>R)":             "P [| A |] ( Q [| B |> R )",
		"a->P":                        "a -> P",
		"a.1->b->P":                   "( a . 1 ) -> ( b -> P )",
		"c?x!y$z:S+1?(x,y):T->P":      "c ? x ! y $ z : ( S + 1 ) ? ( x , y ) : T -> P",
		"c?(x.y)!(x+1)!f->P":          "c ? ( x . y ) ! ( x + 1 ) ! f -> P",
		"c?(-1)->P;Q":                 "( c ? ( - 1 ) -> P ) ; Q",
		"b&a->P":                      "b & ( a -> P )",
		"[]x:S,y<-T,x>y@P[]Q":         "[] x <- S , y <- T , ( x > y ) @ P [] Q",
		"|~|x.y:S@P":                  "|~| ( x . y ) <- S @ P",
		"|||x:S@P":                    "||| x <- S @ P",
		";x:S@P":                      "; x <- S @ P",
		"[|A[]B|]x:S@P":               "[| A [] B |] x <- S @ P",
		"[+A+]x:S or T@P":             "[+ A +] x <- ( S or T ) @ P",
		"||x:S@[A[]B]P":               "|| x <- S @ [ A [] B ] P",
		"[|A[]B|]x:S@P;Q":             "[| A [] B |] x <- S @ P ; Q",
		"[+A[]B+]x:S@P;Q":             "[+ A [] B +] x <- S @ P ; Q",
		"||x:S@[A]P;Q":                "|| x <- S @ [ A ] P ; Q",
		"P[][]x:S@Q":                  "P [] ( [] x <- S @ Q )",
	} {
		wantFormat(t, "f = "+src, "f = "+want)
	}
}

func TestFormatOfBlocks(t *testing.T) {
	wantFormat(t, "f=let x=1 within x", lines("f = let", "  x = 1", " within x"))
	wantFormat(t, "f=let x=1\n      y=2\n  within x\ng=3", lines("f = let", "  x = 1", "  y = 2", " within x", "g = 3"))
	wantFormat(t, "f=let x=let y=1 within y within x", lines("f = let", "  x = let", "    y = 1", "   within y", " within x"))
	wantFormat(t, "f=let x=1 within let y=2 within let z=3 within z", lines("f = let", "  x = 1", " within let", "   y = 2", "  within let", "    z = 3", "   within z"))
	wantFormat(t, "f=(let x=1 within x)+(let y=2 within y)", lines("f = ( let", "  x = 1", " within x ) + ( let", "   y = 2", "  within y )"))
	wantFormat(t, "f=<let x=1 within x>", lines("f = < ( let", "  x = 1", " within x ) >"))
	wantFormat(t, "module M\n x=1\nendmodule", lines("module M", "  x = 1", "endmodule"))
	wantFormat(t, "module M(p,q)\n x=1\n y=let z=1 within z\nexports z=2\nendmodule\nu=3",
		lines("module M ( p , q )", "  x = 1", "  y = let", "    z = 1", "   within z", "exports", "  z = 2", "endmodule", "u = 3"))
	wantFormat(t, "Timed(f)\n x=1\nendtimed", lines("Timed ( f )", "  x = 1", "endtimed"))
	wantFormat(t, "module M\n Timed(f)\n  x=1\n endtimed\n y=2\nexports\n module N\n  z=3\n endmodule\nendmodule",
		lines("module M", "  Timed ( f )", "    x = 1", "  endtimed", "  y = 2", "exports", "  module N", "    z = 3", "  endmodule", "endmodule"))
	wantFormat(t, "f=let module M\n         x=1\n       endmodule within 1", lines("f = let", "  module M", "    x = 1", "  endmodule", " within 1"))
	wantFormat(t, "f=g(let x=1 within x,let y=2 within y)", lines("f = g ( let", "  x = 1", " within x , let", "   y = 2", "  within y )"))
	wantFormat(t, "assert let x=1 within x [T= let y=2 within y", lines("assert let", "  x = 1", " within x [T= let", "   y = 2", "  within y"))
}

func TestFormatOfInvalidTrees(t *testing.T) {
	p := source(t, "f = 1")
	p[1].Kids = 1
	for _, q := range [][]api.Node{nil, {}, p, p[:2], {{Op: api.OpProgram}}} {
		if got := syntax.Format(q); got != "" {
			t.Errorf("Format(%v) = %q", q, got)
		}
	}
}

// Consequences

func TestTextsOfLargeTrees(t *testing.T) {
	letters := strings.Repeat("n", api.MaxName)
	wantBack(t, source(t, letters+" = "+letters+"::"+letters))
	nested := "x"
	for range 20 {
		nested = "let y = (" + nested + ") within y"
	}
	wantBack(t, source(t, "f = "+nested))
	var src strings.Builder
	for range 1500 {
		src.WriteString("f = x + 1\n")
	}
	wantBack(t, source(t, src.String()))
}
