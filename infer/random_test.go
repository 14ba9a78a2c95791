package infer_test

import (
	"slices"
	"strconv"
	"testing"

	"cspcheck/api"
	"cspcheck/modules"
	"cspcheck/scope"
	"cspcheck/syntax"
)

// random returns the resolved tree of a random source, or false if the source is too deep.
func random(t *testing.T, r *maker) (string, []api.Node, []api.Symbol, bool) {
	t.Helper()
	src := r.program()
	p, pos, e := syntax.Source(src)
	if e == api.ErrFull || e == api.ErrLayout {
		return "", nil, nil, false
	}
	if e != api.OK {
		t.Fatalf("Source(%s): error %d at %v", src, e, pos)
	}
	p, _, _ = modules.Expand(p)
	p, s, pos, e := scope.Resolve(p)
	if e != api.OK {
		t.Fatalf("Resolve(%s): error %d at %v", src, e, pos)
	}
	return src, p, s, true
}

// difference returns the first symbol of which two lists have different schemes, or -1.
func difference(a, b []api.Scheme) int {
	for k := range a {
		if a[k].Vars != b[k].Vars || !slices.Equal(a[k].Needs, b[k].Needs) || !slices.Equal(a[k].Type, b[k].Type) {
			return k
		}
	}
	return -1
}

// P8.1, P8.2: Infer agrees with the second implementation. R2: its results share no memory.
func TestAgainstTheChapter(t *testing.T) {
	counts := map[api.Errno]int{}
	quantified := 0
	for seed := range 1500 {
		src, p, s, ok := random(t, newMaker(seed))
		if !ok {
			continue
		}
		want, at, code := newOracle(p, s).infer()
		counts[code]++
		got, pos, e := run(t, p, s)
		if e != code || pos != at {
			t.Fatalf("seed %d: Infer of\n%s\nreturns error %d at %v, want %d at %v", seed, src, e, pos, code, at)
		}
		if e != api.OK {
			continue
		}
		if k := difference(got, want); k >= 0 {
			names := namesOf(s)
			t.Fatalf("seed %d: the scheme of %s in\n%s\nis %s, want %s", seed, names[k], src, show(got[k], names), show(want[k], names))
		}
		k := 25 + seed%(len(s)-25)
		quantified += got[k].Vars
		scribble(got[k])
		got[k] = want[k]
		if difference(got, want) >= 0 {
			t.Fatalf("seed %d: schemes of\n%s\nshare memory", seed, src)
		}
	}
	for _, e := range []api.Errno{api.OK, api.ErrType, api.ErrClass, api.ErrState} {
		if counts[e] < 25 {
			t.Errorf("the errors occur in these numbers: %v", counts)
		}
	}
	if quantified < 300 {
		t.Errorf("only %d variables are quantified", quantified)
	}
}

// The Consequence: a Sig with the inferred type of a function changes no scheme. (If this type has a variable of what is around the function when it is inferred, no Sig can name it.)
func TestSigsWithInferredTypes(t *testing.T) {
	added := 0
	for seed := range 1500 {
		r := newMaker(seed)
		r.known = true
		src, p, s, ok := random(t, r)
		if !ok {
			continue
		}
		want, _, e := run(t, p, s)
		if e != api.OK {
			continue
		}
		k, ok := unsigned(r, p, s)
		if !ok {
			continue
		}
		p, s, _, e = scope.Resolve(withSig(p, s, k, want[k]))
		if e != api.OK {
			continue // the type cannot be written
		}
		added++
		got, pos, e := run(t, p, s)
		if e != api.OK {
			t.Fatalf("seed %d: with a Sig of %s, Infer of\n%s\nreturns error %d at %v", seed, s[k].Name, src, e, pos)
		}
		if d := difference(got, want); d >= 0 {
			names := namesOf(s)
			t.Fatalf("seed %d: with a Sig of %s, the scheme of %s in\n%s\nis %s, and %s without", seed, names[k], names[d], src, show(got[d], names), show(want[d], names))
		}
	}
	if added < 500 {
		t.Errorf("only %d Sigs were added", added)
	}
}

// unsigned returns a function of the program that has no Sig.
func unsigned(r *maker, p []api.Node, s []api.Symbol) (int, bool) {
	var found []int
	for k, x := range s {
		isSig := func(n api.Node) bool { return n.Op == api.OpSig && n.Int == int64(k) }
		if x.Kind == api.SymGlobal && !slices.ContainsFunc(p, isSig) {
			found = append(found, k)
		}
	}
	if len(found) == 0 {
		return 0, false
	}
	return found[r.Intn(len(found))], true
}

// withSig returns an unresolved program with a Sig of a function at the end of its block.
func withSig(p []api.Node, s []api.Symbol, k int, a api.Scheme) []api.Node {
	p = slices.Clone(p)
	for i, n := range p {
		switch n.Op {
		case api.OpName, api.OpFun, api.OpSig, api.OpData, api.OpCon, api.OpNametype, api.OpTypeName:
			p[i].Int = 0
		}
	}
	o := newOracle(p, s)
	block := o.parent[s[k].Node]
	p[block].Kids++
	return slices.Insert(p, o.end[block], sigOf(s, k, a)...)
}

// sigOf returns the nodes of a Sig.
func sigOf(s []api.Symbol, k int, a api.Scheme) []api.Node {
	variable := func(v int) api.Node { return api.Node{Op: api.OpTypeVar, Str: "t" + strconv.Itoa(v)} }
	l := []api.Node{{Op: api.OpSig, Str: s[k].Name, Kids: 1}}
	for _, n := range a.Needs {
		for bit, class := range []string{"Eq", "Ord", "Set"} {
			if n.Classes&(1<<bit) != 0 {
				l[0].Kids++
				l = append(l, api.Node{Op: api.OpClass, Str: class, Kids: 1}, variable(n.Var))
			}
		}
	}
	ops := []int{
		api.TypeSeq: api.OpTypeSeq, api.TypeSet: api.OpTypeSet, api.TypeMap: api.OpTypeMap, api.TypeTuple: api.OpTypeTuple,
		api.TypeFun: api.OpTypeFun, api.TypeDot: api.OpTypeDot, api.TypeExt: api.OpTypeExt,
	}
	names := []string{api.TypeInt: "Int", api.TypeBool: "Bool", api.TypeEvent: "Event", api.TypeProc: "Proc"}
	for _, n := range a.Type {
		switch n.Kind {
		case api.TypeVar:
			l = append(l, variable(n.Num))
		case api.TypeData:
			l = append(l, api.Node{Op: api.OpTypeName, Str: s[n.Num].Name})
		case api.TypeInt, api.TypeBool, api.TypeEvent, api.TypeProc:
			l = append(l, api.Node{Op: api.OpTypeName, Str: names[n.Kind]})
		default:
			l = append(l, api.Node{Op: ops[n.Kind], Kids: n.Kids})
		}
	}
	return l
}
