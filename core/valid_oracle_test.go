package core_test

import (
	"regexp"
	"slices"
	"strconv"

	"cspcheck/api"
	"cspcheck/value"
)

// The second implementation of Valid writes the children of a node as a text, a letter for each, which has to match the row of its operator.

// letterOf returns the letter of a node as a child: E, P and G are those of the chapter; I is a field of a prefix, A a pair, C a CodeClause.
func letterOf(op int) string {
	switch {
	case op == api.CodeGen, op == api.CodeCond:
		return "G"
	case op == api.CodeIn, op == api.CodeSome, op == api.CodeOut:
		return "I"
	case op == api.CodePair:
		return "A"
	case op == api.CodeClause:
		return "C"
	case op >= api.PatVar && op <= api.PatBoth:
		return "P"
	}
	return "E"
}

const never = "x"

// judge judges a core.
type judge struct {
	c api.Core
}

// compiled has the rows that have been used.
var compiled = map[string]*regexp.Regexp{}

func matches(row, letters string) bool {
	x, ok := compiled[row]
	if !ok {
		x = regexp.MustCompile("^(" + row + ")$")
		compiled[row] = x
	}
	return x.MatchString(letters)
}

// rowOf returns what the children of a node have to be, or never if its Int is not permitted. Slots are checked elsewhere.
func (j *judge) rowOf(n api.Code) string {
	if row, ok := j.rowByInt(n); ok {
		return row
	}
	if n.Int != 0 {
		return never
	}
	row, ok := map[int]string{
		api.CodeApply: "E+", api.CodeTuple: "E{2,8}", api.CodeSeq: "E*", api.CodeSet: "E*", api.CodeEvents: "E*", api.CodeMap: "(EE)*", api.CodeDot: "EE", api.CodeFrom: "E", api.CodeIf: "EEE", api.CodeSelect: "EPE",
		api.CodeGen: "PE", api.CodeCond: "E", api.CodePrefix: "EI{0,8}E", api.CodeIn: "PE?", api.CodeSome: "PE?", api.CodeOut: "E", api.CodeRename: "EG*A+", api.CodePair: "EE", api.CodeLink: "EA+E",
		api.PatVar: "", api.PatWild: "", api.PatTuple: "P{2,8}", api.PatSeq: "P*", api.PatSet: "P?", api.PatPair: "PP", api.PatBoth: "PP",
	}[n.Op]
	if !ok {
		return never
	}
	return row
}

// rowByInt returns the row of a node whose Int has a meaning, or false for others.
func (j *judge) rowByInt(n api.Code) (string, bool) {
	when := func(ok bool, row string) (string, bool) {
		if !ok {
			return never, true
		}
		return row, true
	}
	times := func(letter string, k int) string { return letter + "{" + strconv.Itoa(k) + "}" }
	switch n.Op {
	case api.CodeSlot, api.CodeInt, api.PatInt:
		return "", true
	case api.CodeBool, api.PatBool:
		return when(n.Int == 0 || n.Int == 1, "")
	case api.CodeName:
		return when(n.Int >= 0 && n.Int < int64(len(j.c.Names)), "")
	case api.CodeData:
		return when(n.Int >= 0 && slices.ContainsFunc(j.c.Names, func(x api.Info) bool { return int64(x.Data) == n.Int }), "")
	case api.CodeFun, api.CodeCall, api.CodeProc:
		if n.Int < 0 || n.Int >= int64(len(j.c.Funcs)) {
			return never, true
		}
		f := j.c.Funcs[n.Int]
		if n.Op == api.CodeFun {
			return when(f.Arity > 0 && f.Arity <= 32, "E{0,"+strconv.Itoa(max(f.Arity-1, 0))+"}")
		}
		return when(f.Proc == (n.Op == api.CodeProc) && f.Arity >= 0 && f.Arity <= 32, times("E", max(f.Arity, 0)))
	case api.CodePrim:
		counts := map[int64]int{}
		for k := range api.PrimInts {
			counts[int64(k+1)] = 1
		}
		for _, k := range []int64{api.PrimAdd, api.PrimSub, api.PrimMul, api.PrimDiv, api.PrimMod, api.PrimEq, api.PrimLt, api.PrimCat, api.PrimElem, api.PrimUnion, api.PrimInter, api.PrimDiff, api.PrimMember, api.PrimLookup, api.PrimHasKey, api.PrimDelete} {
			counts[k] = 2
		}
		counts[api.PrimUpdate], counts[api.PrimEvents], counts[api.PrimInts] = 3, 0, 0
		count, ok := counts[n.Int]
		return when(ok, times("E", count))
	case api.CodeTo:
		return when(n.Int == api.ValSeq || n.Int == api.ValSet, "EE")
	case api.CodeComp:
		return when(n.Int == api.ValSeq || n.Int == api.ValSet, "G+E")
	case api.CodeLet:
		return when(n.Int > 0 && n.Int < 1000, "E{"+strconv.Itoa(int(max(0, min(n.Int, 999)))+1)+"}")
	case api.CodeProcOp:
		count, ok := map[int64]int{api.ProcStop: 0, api.ProcSkip: 0, api.ProcDiv: 0, api.ProcExtern: 2, api.ProcIntern: 2, api.ProcSequence: 2, api.ProcInterrupt: 2, api.ProcSlide: 2, api.ProcThrow: 3, api.ProcSync: 3, api.ProcParallel: 3, api.ProcAlpha: 4, api.ProcHide: 2, api.ProcPrior: 2, api.ProcChase: 1}[n.Int]
		return when(ok, times("E", count))
	case api.CodeRepeat:
		row, ok := map[int64]string{api.ProcExtern: "G+E", api.ProcIntern: "G+E", api.ProcSequence: "G+E", api.ProcSync: "EG+E", api.ProcParallel: "EG+E", api.ProcAlpha: "G+EE"}[n.Int]
		return when(ok, row)
	case api.PatCat:
		return when(n.Int >= 0 && n.Int < 1000, "P{"+strconv.Itoa(int(max(0, min(n.Int, 999))))+"}PP*")
	case api.PatDot:
		if n.Int < 0 || n.Int >= int64(len(j.c.Names)) {
			return never, true
		}
		return "P{0," + strconv.Itoa(len(j.c.Names[n.Int].Fields)) + "}", true
	}
	return "", false
}

// twig is a node of a body.
type twig struct {
	api.Code
	kids []*twig
	high int // the nesting of its subtree
	size int
}

// twigOf returns the tree at the beginning of a list and what follows it, or nil.
func twigOf(l code, nest int) (*twig, code) {
	if len(l) == 0 || nest == 0 || l[0].Kids < 0 {
		return nil, nil
	}
	x := &twig{Code: l[0], high: 1, size: 1}
	l = l[1:]
	for range x.Kids {
		var kid *twig
		if kid, l = twigOf(l, nest-1); kid == nil {
			return nil, nil
		}
		x.kids = append(x.kids, kid)
		x.high = max(x.high, kid.high+1)
		x.size += kid.size
	}
	return x, l
}

func (x *twig) letters() string {
	text := ""
	for _, kid := range x.kids {
		text += letterOf(kid.Op)
	}
	return text
}

// vars returns the number of variables of a pattern.
func (x *twig) vars() int {
	count := 0
	if x.Op == api.PatVar {
		count = 1
	}
	for _, kid := range x.kids {
		count += kid.vars()
	}
	return count
}

// sound tells whether a node and all in it have the right children.
func (j *judge) sound(x *twig) bool {
	isPattern := letterOf(x.Op) == "P"
	if !matches(j.rowOf(x.Code), x.letters()) || isPattern && (x.high > api.MaxNest || x.size > api.MaxNodes) {
		return false
	}
	if x.Op == api.PatCat && x.kids[x.Int].Op != api.PatVar && x.kids[x.Int].Op != api.PatWild {
		return false
	}
	return !slices.ContainsFunc(x.kids, func(kid *twig) bool { return !j.sound(kid) })
}

// inScope tells whether all slots in a node have been added.
func inScope(x *twig, slots int) bool {
	if x.Op == api.CodeSlot {
		return x.Int >= 0 && x.Int < int64(slots)
	}
	if x.Op == api.CodeLet {
		slots += int(x.Int)
	}
	for _, kid := range x.kids {
		isPattern := letterOf(kid.Op) == "P"
		if !isPattern && !inScope(kid, slots) {
			return false
		}
		switch {
		case isPattern && (x.Op == api.CodeSelect || x.Op == api.CodeTuple):
			slots += kid.vars()
		case kid.Op == api.CodeGen, kid.Op == api.CodeIn, kid.Op == api.CodeSome:
			slots += kid.kids[0].vars()
		}
	}
	return true
}

// body tells whether the body of a function is valid.
func (j *judge) body(f api.Func) bool {
	if f.Arity < 0 || f.Arity > 32 || len(f.Body) > api.MaxNodes {
		return false
	}
	x, rest := twigOf(f.Body, 256)
	if x == nil || len(rest) > 0 {
		return false
	}
	if x.Op != api.CodeClause {
		return letterOf(x.Op) == "E" && j.sound(x) && inScope(x, f.Arity)
	}
	if x.Int != 0 || len(x.kids) == 0 {
		return false
	}
	for _, clause := range x.kids {
		n := clause.Kids - 1
		if clause.Op != api.CodeTuple || clause.Int != 0 || n != x.kids[0].Kids-1 || n < 1 || n > f.Arity || !matches("P{"+strconv.Itoa(n)+"}E", clause.letters()) {
			return false
		}
		if slices.ContainsFunc(clause.kids, func(kid *twig) bool { return !j.sound(kid) }) || !inScope(clause, f.Arity) {
			return false
		}
	}
	return true
}

// valid tells whether the core is valid.
func (j *judge) valid() bool {
	c := j.c
	isNullary := func(k int) bool { return k >= 0 && k < len(c.Funcs) && c.Funcs[k].Arity == 0 }
	for _, x := range c.Names {
		if x.Data < -1 || len(x.Fields) > 8 || len(x.Domains) > 0 && len(x.Domains) != len(x.Fields) {
			return false
		}
		isDomain := func(v api.Value) bool { return v == "" || value.Valid(v) && value.Kind(v) == api.ValSet }
		if slices.ContainsFunc(x.Fields, func(k int) bool { return !isNullary(k) }) || slices.ContainsFunc(x.Domains, func(v api.Value) bool { return !isDomain(v) }) {
			return false
		}
	}
	for _, a := range c.Asserts {
		hasRight := a.Op == api.OpRefine || a.Op == api.OpTrace
		if !isNullary(a.Left) || !hasRight && a.Op != api.OpCheck || hasRight && !isNullary(a.Right) || !hasRight && a.Right != -1 {
			return false
		}
	}
	if len(c.Events) > 1024 || slices.ContainsFunc(c.Events, func(v api.Value) bool { return !value.Valid(v) }) {
		return false
	}
	return len(c.Funcs) <= 65536 && len(c.Names) <= 65536 && !slices.ContainsFunc(c.Funcs, func(f api.Func) bool { return !j.body(f) })
}

func judged(c api.Core) bool {
	j := &judge{c}
	return j.valid()
}
