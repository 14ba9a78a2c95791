package layout_test

import (
	"slices"
	"strconv"
	"strings"
	"testing"

	"cspcheck/api"
	"cspcheck/layout"
	"cspcheck/lexer"
)

func scan(t *testing.T, src string) []api.Token {
	t.Helper()
	l, pos, e := lexer.Scan(src)
	if e != api.OK {
		t.Fatalf("Scan(%.80q): error %d at %v", src, e, pos)
	}
	return l
}

// mark returns the text of an inserted token, which is no text of the lexer's tokens.
func mark(kind int) string {
	switch kind {
	case api.TokenOpen:
		return "<<"
	case api.TokenSep:
		return ";;"
	case api.TokenClose:
		return ">>"
	}
	return ""
}

// shape returns the texts of the tokens, separated by spaces.
func shape(l []api.Token) string {
	var texts []string
	for _, x := range l {
		s := x.Str
		if x.Kind == api.TokenInt {
			s = strconv.FormatInt(x.Int, 10)
		}
		texts = append(texts, mark(x.Kind)+s)
	}
	return strings.Join(texts, " ")
}

func wantShape(t *testing.T, src, want string) {
	t.Helper()
	got, pos, e := layout.Insert(scan(t, src))
	if e != api.OK || pos != (api.Pos{}) {
		t.Errorf("Insert of %.200q: error %d at %v", src, e, pos)
		return
	}
	if s := shape(got); s != want {
		t.Errorf("Insert of %.200q:\n got %.300s\nwant %.300s", src, s, want)
	}
}

// lines joins the lines of a source.
func lines(l ...string) string {
	return strings.Join(l, "\n")
}

// P2.1

func TestInsertFollowsTheExamplesOfTheChapter(t *testing.T) {
	wantShape(t, lines("f = let x = 1", "        y = 2", "    within x"), "<< f = let << x = 1 ;; y = 2 >> within x >>")
	wantShape(t, lines("f = 1", "g = 2"), "<< f = 1 ;; g = 2 >>")
}

func TestInsertEnclosesTheProgram(t *testing.T) {
	wantShape(t, "", "<< >>")
	wantShape(t, "f", "<< f >>")
	wantShape(t, "\n\nf = 1", "<< f = 1 >>")
	wantShape(t, "f = 1\n\n\n  + 2\n\ng = 3\n", "<< f = 1 + 2 ;; g = 3 >>")
}

func TestInsertTakesTheFirstTokenWithoutSteps(t *testing.T) {
	wantShape(t, "within x", "<< within x >>")
	wantShape(t, "endmodule\nendtimed\nf", "<< endmodule endtimed ;; f >>")
	wantShape(t, "exports x", "<< exports << x >> >>")
	wantShape(t, "let x", "<< let << x >> >>")
	wantShape(t, "module M\n x\ny", "<< module M << x >> ;; y >>")
}

func TestInsertSeparatesOnlyAtTheColumnOfTheBlock(t *testing.T) {
	wantShape(t, lines("f = let x = 1", "         2", "        y = 3", "          4", "        z"), "<< f = let << x = 1 2 ;; y = 3 4 ;; z >> >>")
	wantShape(t, lines("f = let", "   x = 1 y", "   z"), "<< f = let << x = 1 y ;; z >> >>")
	wantShape(t, lines("f", " g", "  h", " i"), "<< f g h i >>")
}

func TestInsertClosesBlocksBehindWhoseColumnALineStarts(t *testing.T) {
	wantShape(t, lines("f = let x = 1", "       + 2"), "<< f = let << x = 1 >> + 2 >>")
	wantShape(t, lines("f = let x = 1", "g = 2"), "<< f = let << x = 1 >> ;; g = 2 >>")
	nested := lines("f = let", "  x = let", "    y = let", "      z = 1")
	wantShape(t, nested+"\n      a", "<< f = let << x = let << y = let << z = 1 ;; a >> >> >> >>")
	wantShape(t, nested+"\n     a", "<< f = let << x = let << y = let << z = 1 >> a >> >> >>")
	wantShape(t, nested+"\n    a", "<< f = let << x = let << y = let << z = 1 >> ;; a >> >> >>")
	wantShape(t, nested+"\n   a", "<< f = let << x = let << y = let << z = 1 >> >> a >> >>")
	wantShape(t, nested+"\n  a", "<< f = let << x = let << y = let << z = 1 >> >> ;; a >> >>")
	wantShape(t, nested+"\n a", "<< f = let << x = let << y = let << z = 1 >> >> >> a >>")
	wantShape(t, nested+"\na", "<< f = let << x = let << y = let << z = 1 >> >> >> ;; a >>")
}

func TestInsertClosesABlockAtEachCloser(t *testing.T) {
	for _, closer := range []string{"within", "endmodule", "endtimed"} {
		wantShape(t, "f = let x = 1 "+closer+" x", "<< f = let << x = 1 >> "+closer+" x >>")
		wantShape(t, "f = let x = let y = 1 "+closer+" y "+closer+" x", "<< f = let << x = let << y = 1 >> "+closer+" y >> "+closer+" x >>")
		wantShape(t, lines("f = let x = 1", "          "+closer+" x"), "<< f = let << x = 1 >> "+closer+" x >>")
		wantShape(t, lines("f = let x = 1", "        "+closer+" x"), "<< f = let << x = 1 >> "+closer+" x >>")
	}
	wantShape(t, "f = let x = 1 exports y", "<< f = let << x = 1 >> exports << y >> >>")
}

func TestInsertClosesNoMoreBlocksAtACloserThanItsColumnEnds(t *testing.T) {
	nested := lines("f = let", "  x = let", "    y = 1")
	wantShape(t, nested+"\n     within a", "<< f = let << x = let << y = 1 >> within a >> >>")
	wantShape(t, nested+"\n    within a", "<< f = let << x = let << y = 1 >> within a >> >>")
	wantShape(t, nested+"\n   within a", "<< f = let << x = let << y = 1 >> within a >> >>")
	wantShape(t, nested+"\n  within a", "<< f = let << x = let << y = 1 >> within a >> >>")
	wantShape(t, nested+"\n within a", "<< f = let << x = let << y = 1 >> >> within a >>")
	wantShape(t, nested+"\nwithin a", "<< f = let << x = let << y = 1 >> >> within a >>")
}

func TestInsertDoesNotCloseTheProgramAtACloser(t *testing.T) {
	wantShape(t, "f within x", "<< f within x >>")
	wantShape(t, "f\nendmodule\n endtimed\ng", "<< f endmodule endtimed ;; g >>")
	wantShape(t, "f = let x within within endtimed y\nz", "<< f = let << x >> within within endtimed y ;; z >>")
	wantShape(t, "f exports x\ng", "<< f exports << x >> ;; g >>")
}

func TestInsertSeparatesNoCloser(t *testing.T) {
	for _, closer := range []string{"within", "endmodule", "endtimed"} {
		wantShape(t, "f = 1\n"+closer, "<< f = 1 "+closer+" >>")
		wantShape(t, lines("f = let", "  x = let y", "  "+closer+" z", "  a"), "<< f = let << x = let << y >> "+closer+" z ;; a >> >>")
	}
	wantShape(t, "f = 1\nexports\n x", "<< f = 1 exports << x >> >>")
	for _, other := range []string{"then", "else", "let x", "assert", "->", ")", "1"} {
		wantShape(t, "f = 1\n"+other, strings.Replace("<< f = 1 ;; "+other+" >>", "let x", "let << x >>", 1))
	}
}

func TestInsertOpensABlockBehindLet(t *testing.T) {
	wantShape(t, "f = let x", "<< f = let << x >> >>")
	wantShape(t, "f = let\n x\n y", "<< f = let << x ;; y >> >>")
	wantShape(t, "f = let 1 -> let -> within", "<< f = let << 1 -> let << -> >> within >> >>")
	wantShape(t, "f = let let x", "<< f = let << let << x >> >> >>")
	wantShape(t, "f let' Let", "<< f let' Let >>")
}

func TestInsertOpensABlockBehindModuleAtTheNextLine(t *testing.T) {
	wantShape(t, lines("module M(a, b)", "  x = 1", "  y = 2", "exports", "  z = 3", "  u = 4", "endmodule", "v = 5"),
		"<< module M ( a , b ) << x = 1 ;; y = 2 >> exports << z = 3 ;; u = 4 >> endmodule ;; v = 5 >>")
	wantShape(t, lines("Timed (f)", "  P = SKIP", "  Q = STOP", "endtimed", "R = P"), "<< Timed ( f ) << P = SKIP ;; Q = STOP >> endtimed ;; R = P >>")
	wantShape(t, lines("module M", "  module N", "    x", "  endmodule", "  y", "endmodule"), "<< module M << module N << x >> endmodule ;; y >> endmodule >>")
	wantShape(t, lines("a", "module", " b"), "<< a ;; module << b >> >>")
}

func TestInsertOpensABlockBehindExportsAtTheNextToken(t *testing.T) {
	wantShape(t, lines("module M", "  x = 1", "exports y = 2", "        z = 3", "endmodule"), "<< module M << x = 1 >> exports << y = 2 ;; z = 3 >> endmodule >>")
	wantShape(t, lines("module M", "  x = 1", "  exports y", "  z"), "<< module M << x = 1 >> exports << y >> z >>")
}

func TestInsertOpensAnEmptyBlockBeforeACloser(t *testing.T) {
	wantShape(t, "f = let within 1", "<< f = let << >> within 1 >>")
	wantShape(t, "f = let\nwithin 1\ng", "<< f = let << >> within 1 ;; g >>")
	wantShape(t, "f = let endmodule endtimed", "<< f = let << >> endmodule endtimed >>")
	wantShape(t, "f = let exports x", "<< f = let << >> exports << x >> >>")
	wantShape(t, "module M\nendmodule\nx", "<< module M << >> endmodule ;; x >>")
	wantShape(t, "Timed (f)\n  endtimed", "<< Timed ( f ) << >> endtimed >>")
	wantShape(t, "module M\nexports\nendmodule", "<< module M << >> exports << >> endmodule >>")
	wantShape(t, "module M\nexports\n  y = 2\nendmodule", "<< module M << >> exports << y = 2 >> endmodule >>")
}

func TestInsertTakesTheCloserOfAnEmptyBlockWithoutSteps(t *testing.T) {
	wantShape(t, "f = let x = let within 1", "<< f = let << x = let << >> within 1 >> >>")
	wantShape(t, "f = let x = let\nwithin 1\ng", "<< f = let << x = let << >> within 1 >> ;; g >>")
	wantShape(t, lines("f = let x = let", "        within 1", "        y"), "<< f = let << x = let << >> within 1 ;; y >> >>")
	wantShape(t, lines("f = let x = let", "within  y"), "<< f = let << x = let << >> within y >> >>")
}

func TestInsertForgetsAllButTheLastModule(t *testing.T) {
	wantShape(t, "module M module N\n x\n y\nz", "<< module M module N << x ;; y >> ;; z >>")
	wantShape(t, "module M Timed (f)\n x\nz", "<< module M Timed ( f ) << x >> ;; z >>")
	wantShape(t, "Timed (f) module M\n x\n  y\nz", "<< Timed ( f ) module M << x y >> ;; z >>")
}

func TestInsertBeginsTheBlockOfLetBeforeThatOfModule(t *testing.T) {
	wantShape(t, lines("module M let", " x", "  y", "  z", " u"), "<< module M let << x << y ;; z >> ;; u >> >>")
	wantShape(t, lines("module M let x", "               y", "z"), "<< module M let << x << y >> >> ;; z >>")
	wantShape(t, lines("module M exports", " x", "  y"), "<< module M exports << x << y >> >> >>")
	wantShape(t, lines("Timed let", "within", " x"), "<< Timed let << >> within << x >> >>")
	wantShape(t, lines("Timed let", " module", "  x", "   y"), "<< Timed let << module << x y >> >> >>")
}

func TestInsertKeepsAModuleWaitingWhileOtherBlocksEnd(t *testing.T) {
	wantShape(t, lines("module M let x within y", " z"), "<< module M let << x >> within y << z >> >>")
	wantShape(t, lines("f = let module M within x", " y", "  z"), "<< f = let << module M >> within x << y z >> >>")
}

func TestInsertReturnsPositions(t *testing.T) {
	src := lines("", "f = let x = 1", "        y", "    within let within 2", "g = let z", "        let u", "h")
	got, _, _ := layout.Insert(scan(t, src))
	want := map[int][]api.Pos{
		api.TokenOpen:  {{Line: 1, Col: 1}, {Line: 2, Col: 9}, {Line: 4, Col: 16}, {Line: 5, Col: 9}, {Line: 6, Col: 13}},
		api.TokenSep:   {{Line: 3, Col: 9}, {Line: 5, Col: 1}, {Line: 6, Col: 9}, {Line: 7, Col: 1}},
		api.TokenClose: {{Line: 4, Col: 5}, {Line: 4, Col: 16}, {Line: 7, Col: 1}, {Line: 7, Col: 1}, {}},
	}
	positions := make(map[int][]api.Pos)
	for _, x := range got {
		if mark(x.Kind) != "" {
			positions[x.Kind] = append(positions[x.Kind], x.Pos)
		}
	}
	for kind, l := range want {
		if !slices.Equal(positions[kind], l) {
			t.Errorf("positions of %s: got %v, want %v", mark(kind), positions[kind], l)
		}
	}
	got, _, _ = layout.Insert(scan(t, "f = let x = let y"))
	if last := got[len(got)-3:]; !slices.Equal(last, slices.Repeat([]api.Token{{Kind: api.TokenClose}}, 3)) {
		t.Errorf("at the end: got %v", last)
	}
	got, _, _ = layout.Insert(nil)
	if !slices.Equal(got, []api.Token{{Kind: api.TokenOpen, Pos: api.Pos{Line: 1, Col: 1}}, {Kind: api.TokenClose}}) {
		t.Errorf("Insert(nil) = %v", got)
	}
}

func TestInsertLeavesItsArgument(t *testing.T) {
	l := scan(t, "f = let x = 1\n        y = 2\n    within x\ng")
	before := slices.Clone(l)
	got, _, _ := layout.Insert(l[:len(l)-1])
	for i := range got {
		got[i] = api.Token{}
	}
	if !slices.Equal(l, before) {
		t.Errorf("the argument became %v", l)
	}
}

func TestInsertTakesLongLists(t *testing.T) {
	const size = 3 * api.MaxTokens
	var l []api.Token
	for i := range size {
		l = append(l, api.Token{Kind: api.TokenName, Str: "a", Pos: api.Pos{Line: i + 1, Col: 1}})
	}
	got, _, e := layout.Insert(l)
	if e != api.OK || len(got) != 2*size+1 {
		t.Errorf("got %d tokens, error %d", len(got), e)
	}
}
