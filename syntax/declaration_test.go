package syntax_test

import "testing"

// P3.1, declarations

func TestExamplesOfTheChapter(t *testing.T) {
	wantTree(t, "P = c?x -> P", "Fun P (Params, Prefix (Name c, Input (Name x), Name P))")
	wantTree(t, "f(x)=x+1", "Fun f (Params (Name x), Add (Name x, Int 1))")
	wantExpr(t, "P [] if b then Q else R [] S", "Extern (Name P, If (Name b, Name Q, Extern (Name R, Name S)))")
}

func TestFunctions(t *testing.T) {
	wantTree(t, "f = 1", "Fun f (Params, Int 1)")
	wantTree(t, "f(x) = 1", "Fun f (Params (Name x), Int 1)")
	wantTree(t, "f(x, y.z, <a>^b) = 1", "Fun f (Params (Name x, Dot (Name y, Name z), Cat (Seq (Name a), Name b)), Int 1)")
	wantTree(t, "f(a,b,c,d,e,f,g,h) = 1", "Fun f (Params (Name a, Name b, Name c, Name d, Name e, Name f, Name g, Name h), Int 1)")
	wantTree(t, "f = 1\ng = 2\n\nh = 3", "Fun f (Params, Int 1), Fun g (Params, Int 2), Fun h (Params, Int 3)")
	wantTree(t, "f(x) =\n  x\n   + 1\ng = 2", "Fun f (Params (Name x), Add (Name x, Int 1)), Fun g (Params, Int 2)")
	wantTree(t, "deadlock(has) = trace", "Fun deadlock (Params (Name has), Name trace)")
}

func TestBinds(t *testing.T) {
	wantTree(t, "(x, y) = p", "Bind (Tuple (Name x, Name y), Name p)")
	wantTree(t, "x.y = p", "Bind (Dot (Name x, Name y), Name p)")
	wantTree(t, "x @@ (y, _) = p", "Bind (Both (Name x, Tuple (Name y, Wild)), Name p)")
	wantTree(t, "<x> ^ s = p", "Bind (Cat (Seq (Name x), Name s), Name p)")
	wantTree(t, "s ^ <x> = p", "Bind (Cat (Name s, Seq (Name x)), Name p)")
	wantTree(t, "(x).y = p", "Bind (Dot (Name x, Name y), Name p)")
	for src, want := range map[string]string{"_": "Wild", "7": "Int 7", "-7": "Neg (Int 7)", "true": "True", "false": "False", "{}": "Set", "{x}": "Set (Name x)", "<>": "Seq", "(x.y)": "Dot (Name x, Name y)"} {
		wantTree(t, src+" = p", "Bind ("+want+", Name p)")
	}
}

func TestDatatypes(t *testing.T) {
	wantTree(t, "datatype T = A", "Data T (Con A)")
	wantTree(t, "datatype T = A | B.{0..1}.T | c", "Data T (Con A, Con B (SetTo (Int 0, Int 1), Name T), Con c)")
	wantTree(t, "datatype T = A.<x>^y.1+2*3", "Data T (Con A (Cat (Seq (Name x), Name y), Add (Int 1, Mul (Int 2, Int 3))))")
	wantTree(t, "datatype T = A.(b.c)", "Data T (Con A (Dot (Name b, Name c)))")
	wantTree(t, "datatype T = A.1.2.3.4.5.6.7.8", "Data T (Con A (Int 1, Int 2, Int 3, Int 4, Int 5, Int 6, Int 7, Int 8))")
}

func TestNametypesAndChannels(t *testing.T) {
	wantTree(t, "nametype T = {0..3}.Bool", "Nametype T (Dot (SetTo (Int 0, Int 3), Name Bool))")
	wantTree(t, "channel a", "Channel (Name a)")
	wantTree(t, "channel a, b, c", "Channel (Name a, Name b, Name c)")
	wantTree(t, "channel a : T", "Channel 1 (Name a, Name T)")
	wantTree(t, "channel a, b : {0,1}.Bool.c", "Channel 1 (Name a, Name b, Dot (Dot (Set (Int 0, Int 1), Name Bool), Name c))")
	wantTree(t, "channel a,b,c,d,e,f,g,h,i", "Channel (Name a, Name b, Name c, Name d, Name e, Name f, Name g, Name h, Name i)")
}

func TestModules(t *testing.T) {
	wantTree(t, lines("module M", "  x = 1", "endmodule"), "Module M (Params, Block (Fun x (Params, Int 1)))")
	wantTree(t, lines("module M(p, q)", "  x = 1", "  y = 2", "exports", "  z = 3", "endmodule", "u = 4"),
		"Module M (Params (Name p, Name q), Block (Fun x (Params, Int 1), Fun y (Params, Int 2)), Block (Fun z (Params, Int 3))), Fun u (Params, Int 4)")
	wantTree(t, "instance I = M", "Instance I (Name M, Params)")
	wantTree(t, "instance I = M(1, x > y)", "Instance I (Name M, Params (Int 1, Gt (Name x, Name y)))")
	wantTree(t, lines("Timed (f)", "  P = a -> P", "endtimed"), "Timed (Name f, Block (Fun P (Params, Prefix (Name a, Name P))))")
}

func TestAssertions(t *testing.T) {
	wantTree(t, "assert P [T= Q", "Refine 1 (Name P, Name Q)")
	wantTree(t, "assert P [F= Q", "Refine 2 (Name P, Name Q)")
	wantTree(t, "assert P [FD= Q", "Refine 3 (Name P, Name Q)")
	wantTree(t, "assert not P [] Q [FD= Q \\ R", "Refine -3 (Extern (Name P, Name Q), Hide (Name Q, Name R))")
	wantTree(t, "assert not P [T= Q", "Refine -1 (Name P, Name Q)")
	wantTree(t, "assert not not P [T= Q", "Refine -1 (Not (Name P), Name Q)")
	wantTree(t, "assert (not P) [T= Q", "Refine 1 (Not (Name P), Name Q)")
	wantTree(t, "assert not P and Q [T= R", "Refine -1 (And (Name P, Name Q), Name R)")
	wantTree(t, "assert P :[deadlock free]", "Check 1 (Name P)")
	wantTree(t, "assert P :[divergence free]", "Check 2 (Name P)")
	wantTree(t, "assert P : [ deterministic ]", "Check 3 (Name P)")
	wantTree(t, "assert not P :[deadlock free]", "Check -1 (Name P)")
	wantTree(t, "assert not P :[divergence free]", "Check -2 (Name P)")
	wantTree(t, "assert not P :[deterministic]", "Check -3 (Name P)")
	wantTree(t, "assert P :[has trace]: <a, b>", "Trace 1 (Name P, Seq (Name a, Name b))")
	wantTree(t, "assert not P :[has trace]: <>", "Trace -1 (Name P, Seq)")
}

func TestSignatures(t *testing.T) {
	wantTree(t, "f :: Int", "Sig f (TypeName Int)")
	wantTree(t, "f :: (Eq a) => a", "Sig f (Class Eq (TypeVar a), TypeVar a)")
	wantTree(t, "f :: (Eq a, ord b) => (a, b) -> Int", "Sig f (Class Eq (TypeVar a), Class ord (TypeVar b), TypeFun (TypeVar a, TypeVar b, TypeName Int))")
	wantTree(t, "f :: (a a,b b,c c,d d,e e,f f,g g,h h,i i) => a",
		"Sig f (Class a (TypeVar a), Class b (TypeVar b), Class c (TypeVar c), Class d (TypeVar d), Class e (TypeVar e), Class f (TypeVar f), Class g (TypeVar g), Class h (TypeVar h), Class i (TypeVar i), TypeVar a)")
}

func TestTypes(t *testing.T) {
	wantType(t, "T", "TypeName T")
	wantType(t, "t", "TypeVar t")
	wantType(t, "a.z'.A.Z1", "TypeDot (TypeDot (TypeDot (TypeVar a, TypeVar z'), TypeName A), TypeName Z1)")
	wantType(t, "<a>", "TypeSeq (TypeVar a)")
	wantType(t, "{<A>}", "TypeSet (TypeSeq (TypeName A))")
	wantType(t, "(| a.b => c => d |)", "TypeMap (TypeDot (TypeVar a, TypeVar b), TypeExt (TypeVar c, TypeVar d))")
	wantType(t, "(| a => b -> c |)", "TypeMap (TypeVar a, TypeFun (TypeVar b, TypeVar c))")
	wantType(t, "((a))", "TypeVar a")
	wantType(t, "(a, B)", "TypeTuple (TypeVar a, TypeName B)")
	wantType(t, "((a, b), c)", "TypeTuple (TypeTuple (TypeVar a, TypeVar b), TypeVar c)")
	wantType(t, "a.b.c", "TypeDot (TypeDot (TypeVar a, TypeVar b), TypeVar c)")
	wantType(t, "a.(b.c)", "TypeDot (TypeVar a, TypeDot (TypeVar b, TypeVar c))")
	wantType(t, "a => b => c", "TypeExt (TypeVar a, TypeExt (TypeVar b, TypeVar c))")
	wantType(t, "(a => b) => c", "TypeExt (TypeExt (TypeVar a, TypeVar b), TypeVar c)")
	wantType(t, "a.b => c", "TypeExt (TypeDot (TypeVar a, TypeVar b), TypeVar c)")
	wantType(t, "a -> b -> C", "TypeFun (TypeVar a, TypeFun (TypeVar b, TypeName C))")
	wantType(t, "(a -> b) -> C", "TypeFun (TypeFun (TypeVar a, TypeVar b), TypeName C)")
	wantType(t, "a => b -> c => d", "TypeFun (TypeExt (TypeVar a, TypeVar b), TypeExt (TypeVar c, TypeVar d))")
	wantType(t, "(a, b) -> c", "TypeFun (TypeVar a, TypeVar b, TypeVar c)")
	wantType(t, "((a, b)) -> c", "TypeFun (TypeVar a, TypeVar b, TypeVar c)")
	wantType(t, "a => (b, c) -> d", "TypeFun (TypeExt (TypeVar a, TypeTuple (TypeVar b, TypeVar c)), TypeVar d)")
	wantType(t, "a -> (b, c)", "TypeFun (TypeVar a, TypeTuple (TypeVar b, TypeVar c))")
}
