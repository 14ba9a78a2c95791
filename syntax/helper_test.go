package syntax_test

import (
	"slices"
	"strconv"
	"strings"
	"testing"

	"cspcheck/api"
	"cspcheck/layout"
	"cspcheck/lexer"
	"cspcheck/syntax"
)

// opNames are the names of the operators, from each number on.
var opNames = map[int]string{
	1:   "Program Fun Bind Sig Data Con Nametype Channel Module Instance Timed Refine Check Trace Block Params",
	20:  "Name Int True False Wild Tuple Seq Set Map Events SeqFrom SeqTo SetFrom SetTo SeqComp SetComp EvComp Gen Apply Dot Cat Len Neg Mul Div Mod Add Sub Eq Ne Lt Le Gt Ge Not And Or If Let Lambda Both",
	70:  "Stop Skip Div0 Prefix Input Output Some Guard Sequence Extern Intern Interrupt Slide Throw Sync Hide Rename Pair Parallel Alpha Inter Link Repeat Prior Chase",
	100: "TypeName TypeVar TypeSeq TypeSet TypeMap TypeTuple TypeFun TypeDot TypeExt Class",
}

func opName(op int) string {
	for start, names := range opNames {
		l := strings.Fields(names)
		if op >= start && op < start+len(l) {
			return l[op-start]
		}
	}
	return "?"
}

// label returns the operator, Str and Int of a node; an Int is left out if it is 0, except that of an Int.
func label(n api.Node) string {
	s := opName(n.Op)
	if n.Str != "" {
		s += " " + n.Str
	}
	if n.Int != 0 || n.Op == api.OpInt {
		s += " " + strconv.FormatInt(n.Int, 10)
	}
	return s
}

// draw returns the first tree of a list, and the nodes behind it.
func draw(p []api.Node, label func(api.Node) string) (string, []api.Node) {
	if len(p) == 0 {
		return "nothing", nil
	}
	s, rest := label(p[0]), p[1:]
	var kids []string
	for range p[0].Kids {
		var k string
		k, rest = draw(rest, label)
		kids = append(kids, k)
	}
	if len(kids) > 0 {
		s += " (" + strings.Join(kids, ", ") + ")"
	}
	return s, rest
}

func drawing(p []api.Node) string {
	s, _ := draw(p, label)
	return s
}

// source returns the tree of a source.
func source(t *testing.T, src string) []api.Node {
	t.Helper()
	p, pos, e := syntax.Source(src)
	if e != api.OK || pos != (api.Pos{}) {
		t.Errorf("Source(%.200q): error %d at %v", src, e, pos)
		return nil
	}
	return p
}

// wantTree checks the declarations of a program.
func wantTree(t *testing.T, src, want string) {
	t.Helper()
	if got := drawing(source(t, src)); got != "Program ("+want+")" {
		t.Errorf("Source(%.200q):\n got %.400s\nwant Program (%.400s)", src, got, want)
	}
}

// wantExpr checks the tree of an expression.
func wantExpr(t *testing.T, src, want string) {
	t.Helper()
	wantTree(t, "f = "+src, "Fun f (Params, "+want+")")
}

// wantType checks the tree of a type.
func wantType(t *testing.T, src, want string) {
	t.Helper()
	wantTree(t, "f :: "+src, "Sig f ("+want+")")
}

// wantError checks that a source has the given error and no tree.
func wantError(t *testing.T, src string, line, col int, want api.Errno) {
	t.Helper()
	p, pos, e := syntax.Source(src)
	if e != want || pos != (api.Pos{Line: line, Col: col}) || len(p) != 0 {
		t.Errorf("Source(%.200q) = %d nodes, %v, error %d, want error %d at %d:%d", src, len(p), pos, e, want, line, col)
	}
}

// wantErrorAt checks that a source has the given error at the byte that is marked with ` in it, or with the zero Pos if nothing is behind the mark.
func wantErrorAt(t *testing.T, src string, want api.Errno) {
	t.Helper()
	before, after, ok := strings.Cut(src, "`")
	switch {
	case !ok:
		t.Errorf("no mark in %q", src)
	case after == "":
		wantError(t, before, 0, 0, want)
	default:
		line := strings.Count(before, "\n") + 1
		col := len(before) - strings.LastIndex(before, "\n")
		wantError(t, before+after, line, col, want)
	}
}

// lines joins the lines of a source.
func lines(l ...string) string {
	return strings.Join(l, "\n")
}

// laidOut returns the tokens of a source with those of the layout.
func laidOut(t *testing.T, src string) []api.Token {
	t.Helper()
	l, _, e := lexer.Scan(src)
	if e == api.OK {
		l, _, e = layout.Insert(l)
	}
	if e != api.OK {
		t.Fatalf("%.200q: error %d", src, e)
	}
	return l
}

// token returns the token of a text; Open, Sep and Close are those of the layout.
func token(s string) api.Token {
	switch s {
	case "Open":
		return api.Token{Kind: api.TokenOpen}
	case "Sep":
		return api.Token{Kind: api.TokenSep}
	case "Close":
		return api.Token{Kind: api.TokenClose}
	}
	l, _, _ := lexer.Scan(s)
	l[0].Pos = api.Pos{}
	return l[0]
}

// tokens returns the tokens of texts that are separated by spaces.
func tokens(s string) []api.Token {
	var l []api.Token
	for _, f := range strings.Fields(s) {
		l = append(l, token(f))
	}
	return l
}

// numbered gives each token its index, from 1 on, as its column.
func numbered(l []api.Token) []api.Token {
	l = slices.Clone(l)
	for i := range l {
		l[i].Pos = api.Pos{Line: 1, Col: i + 1}
	}
	return l
}

// shown returns the texts of tokens.
func shown(l []api.Token) string {
	var s []string
	for _, x := range l {
		switch x.Kind {
		case api.TokenOpen:
			s = append(s, "Open")
		case api.TokenSep:
			s = append(s, "Sep")
		case api.TokenClose:
			s = append(s, "Close")
		default:
			s = append(s, lexer.Format([]api.Token{x}))
		}
	}
	return strings.Join(s, " ")
}
