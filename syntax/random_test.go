package syntax_test

import (
	"math/rand"
	"slices"
	"strconv"
	"strings"
	"testing"

	"cspcheck/api"
	"cspcheck/lexer"
	"cspcheck/syntax"
)

// numbers returns numbers as a text.
func numbers(l ...int) string {
	var b strings.Builder
	for _, n := range l {
		b.WriteString(strconv.Itoa(n) + " ")
	}
	return b.String()
}

// generator makes random sentences of the grammar.
type generator struct {
	*rand.Rand
	g      *grammar
	budget int
}

// sentence appends a random list of tokens that a symbol derives. With no budget left, it takes the least tree.
func (r *generator) sentence(symbol string, l []api.Token) []api.Token {
	r.budget--
	all := r.g.rules[symbol]
	switch {
	case all == nil:
		return append(l, r.token(symbol))
	case strings.HasPrefix(symbol, "~~") && r.Intn(4) > 0:
		return r.sentence("P-More", l)
	case strings.HasPrefix(symbol, "~") && r.Intn(4) > 0:
		return r.sentence("P-", l)
	}
	choice := r.Intn(len(all))
	isGroup := strings.Contains(symbol, "#")
	if r.budget < 0 || r.Intn(2) == 0 || isGroup && r.Intn(10) < 7 {
		choice = r.leastChoice(all)
	}
	for _, s := range all[choice] {
		l = r.sentence(s, l)
	}
	return l
}

// leastChoice returns one of the alternatives with the least tree.
func (r *generator) leastChoice(all [][]string) int {
	best := -1
	for _, i := range r.Perm(len(all)) {
		if best < 0 || r.g.heightOf(all[i]) < r.g.heightOf(all[best]) {
			best = i
		}
	}
	return best
}

func (r *generator) token(symbol string) api.Token {
	one := func(l ...string) api.Token { return token(l[r.Intn(len(l))]) }
	switch symbol {
	case "name":
		return one("a", "b", "C", "free", "trace", "X'")
	case "small":
		return one("a", "b'")
	case "integer":
		return one("0", "1", "17")
	}
	return token(symbol)
}

// mutate changes a token or two.
func (r *generator) mutate(l, all []api.Token) []api.Token {
	l = slices.Clone(l)
	for range 1 + r.Intn(2) {
		i := r.Intn(len(l) + 1)
		switch other := all[r.Intn(len(all))]; {
		case i == len(l) || r.Intn(5) == 0:
			l = slices.Insert(l, i, other)
		case r.Intn(4) == 0:
			l = slices.Delete(l, i, i+1)
		case r.Intn(3) == 0:
			l = l[:i]
		case r.Intn(2) == 0:
			l[i] = l[r.Intn(len(l))]
		default:
			l[i] = other
		}
	}
	return l
}

func allTokens() []api.Token {
	l := tokens("Open Sep Close a B 7 free has " + strings.Join(lexer.Symbols(), " "))
	return append(l, tokens("and or not if then else let within true false datatype nametype channel module exports endmodule instance Timed endtimed assert STOP SKIP DIV chase prioritise")...)
}

// randomTokens calls visit with sentences of the grammar, two of three of which are changed.
func randomTokens(count int, visit func([]api.Token, *grammar)) {
	r := &generator{Rand: rand.New(rand.NewSource(3)), g: readGrammar()}
	all := allTokens()
	for n := range count {
		r.budget = 5 + r.Intn(400)
		l := r.sentence("Program", nil)
		if len(l) > 150 {
			continue
		}
		if n%3 > 0 {
			l = r.mutate(l, all)
		}
		visit(numbered(l), r.g)
	}
}

func TestErrorsAreAtTheFirstTokenWithoutContinuation(t *testing.T) {
	accepted, refused := 0, 0
	randomTokens(3000, func(l []api.Token, g *grammar) {
		want := g.oracle(l).firstError("Program")
		_, pos, e := syntax.Parse(l)
		switch {
		case e == api.ErrSyntax && pos == (api.Pos{}) && want == len(l), e == api.ErrSyntax && pos == (api.Pos{Line: 1, Col: want + 1}):
			refused++
		case e != api.ErrSyntax && want < 0:
			accepted++
		default:
			t.Errorf("%s\n got error %d at %d, want %d", shown(l), e, pos.Col, want+1)
		}
	})
	if accepted < 500 || refused < 500 {
		t.Errorf("%d accepted, %d refused", accepted, refused)
	}
}

func TestWhatIsParsedIsValidAndFormatted(t *testing.T) {
	randomTokens(3000, func(l []api.Token, _ *grammar) {
		p, _, e := syntax.Parse(l)
		if e != api.OK {
			return
		}
		if !syntax.Valid(p) {
			t.Errorf("%s is not valid: %s", shown(l), drawing(p))
			return
		}
		wantBack(t, p)
	})
}

// wantBack checks that the text of a valid tree has this tree.
func wantBack(t *testing.T, p []api.Node) {
	t.Helper()
	src := syntax.Format(p)
	q, pos, e := syntax.Source(src)
	if e != api.OK || !syntax.Equal(p, q) {
		t.Errorf("%s\nhas the text\n%s\nwith error %d at %v and the tree %s", drawing(p), src, e, pos, drawing(q))
	}
	if again := syntax.Format(q); again != src {
		t.Errorf("the text\n%s\nbecomes\n%s", src, again)
	}
}

// change changes a node of a tree, or moves a subtree.
func change(r *rand.Rand, p []api.Node) []api.Node {
	p = slices.Clone(p)
	i := r.Intn(len(p))
	switch r.Intn(6) {
	case 0:
		p[i].Kids += r.Intn(3) - 1
	case 1:
		p[i].Op = 1 + r.Intn(110)
	case 2:
		p[i].Int = int64(r.Intn(110) - 5)
	case 3:
		p[i].Str = []string{"", "a", "B", "a::B", "let", "::"}[r.Intn(6)]
	case 4:
		p = slices.Delete(p, i, i+1)
	default:
		j := r.Intn(len(p))
		p = slices.Concat(p[:i], p[j:syntax.End(p, j)], p[syntax.End(p, i):])
	}
	return p
}

func TestWhatIsValidIsParsed(t *testing.T) {
	r := rand.New(rand.NewSource(4))
	valid, invalid := 0, 0
	randomTokens(3000, func(l []api.Token, _ *grammar) {
		p, _, e := syntax.Parse(l)
		if e != api.OK {
			return
		}
		for range 10 {
			q := change(r, p)
			if !syntax.Valid(q) {
				invalid++
				continue
			}
			valid++
			wantBack(t, q)
		}
	})
	if valid < 500 || invalid < 500 {
		t.Errorf("%d valid, %d invalid", valid, invalid)
	}
}
