package syntax_test

import (
	"slices"
	"strconv"
	"strings"
)

// The grammar of the chapter, without what is produced. Two marks are added: ! and < before a part say that it is inside brackets, or directly inside those of a sequence; ~ says that it must be a pattern, and ~~ that it must be a pattern that is no Name. The nonterminals that begin with P- are the patterns, written without regard to levels, because parentheses are permitted everywhere.
const grammarText = `
Program  = Open Decl { Sep Decl } Close
Block    = Open Decl { Sep Decl } Close
Decl     = Fun | Bind | Signed | Other
Fun      = name [ "(" ~Expr % "," ")" ] "=" Expr
Bind     = ~~Both "=" Expr
Signed   = name "::" Sig
Other    = "datatype" name "=" Con { "|" Con }
         | "nametype" name "=" Expr
         | "channel" name % "," [ ":" Expr ]
         | "module" name [ "(" name % "," ")" ] Block [ "exports" Block ] "endmodule"
         | "instance" name "=" name [ "(" Expr % "," ")" ]
         | "Timed" "(" name ")" Block "endtimed"
         | "assert" [ "not" ] Expr ( "[T=" | "[F=" | "[FD=" ) Expr
         | "assert" [ "not" ] Expr ":" "[" Property "]"
         | "assert" [ "not" ] Expr ":" "[" "has" "trace" "]" ":" Expr
Property = "deadlock" "free" | "divergence" "free" | "deterministic"
Con      = name { "." Cat }
Expr     = Greedy | Hide
Greedy   = Lambda | If | Let | Repeat
Lambda   = "\" ~Both % "," "@" Expr
If       = "if" Expr "then" Expr "else" Expr
Let      = "let" Block "within" Expr
Repeat   = ( "[]" | "|~|" | "|||" | ";" ) Gens "@" Expr
         | "[|" !Expr "|]" Gens "@" Expr
         | "[+" !Expr "+]" Gens "@" Expr
         | "||" Gens "@" "[" !Expr "]" Expr
Gens     = ( Gen | Or ) % ","
Gen      = ~Or ( "<-" | ":" ) Or
Hide     = Inter { "\" Inter }
Inter    = Par { "|||" Par }
Par      = Intern { "[|" !Expr "|]" Intern | "[" !Expr "||" !Expr "]" Intern | "[|" !Expr "|>" Intern | "[" !Links "]" Intern }
Links    = ( Dot "<->" Dot ) % ","
Intern   = Extern { "|~|" Extern }
Extern   = Slide { "[]" Slide | "[+" !Expr "+]" Slide }
Slide    = Interrupt { "[>" Interrupt }
Interrupt = Seq { "/\" Seq }
Seq      = Action { ";" Action }
Action   = Or "&" Action | Or { Input } "->" Action | Or | Greedy
Input    = "?" ~Primary [ ":" Add ] | "$" ~Primary [ ":" Add ] | "!" Primary
Or       = And { "or" And }
And      = Not { "and" Not }
Not      = "not" Not | Compare
Compare  = Both [ ( "==" | "!=" | "<" | "<=" | ">" | ">=" ) Both ]
Both     = Dot { "@@" Dot }
Dot      = Cat { "." Cat }
Cat      = Add { "^" Add }
Add      = Mul { ( "+" | "-" ) Mul }
Mul      = Unary { ( "*" | "/" | "%" ) Unary }
Unary    = "-" Unary | "#" Unary | Post
Post     = Primary { "(" [ !Expr % "," ] ")" | "[[" !Renames "]]" }
Renames  = ( Dot "<-" Dot ) % "," [ "|" Gens ]
Primary  = name [ "::" name ]
         | integer
         | "true" | "false" | "_" | "STOP" | "SKIP" | "DIV"
         | "(" !Expr % "," ")"
         | "<" [ <Expr % "," ] ">"
         | "<" <Expr ".." [ <Expr ] ">"
         | "<" <Expr "|" <Gens ">"
         | "{" [ !Expr % "," ] "}"
         | "{" !Expr ".." !Expr "}"
         | "{" !Expr "|" !Gens "}"
         | "{|" [ !Expr % "," ] "|}"
         | "{|" !Expr "|" !Gens "|}"
         | "(|" [ ( !Expr "=>" !Expr ) % "," ] "|)"
         | "chase" "(" !Expr ")"
         | "prioritise" "(" !Expr "," !Expr ")"
Sig      = [ "(" ( name small ) % "," ")" "=>" ] Type
Type     = Ext [ "->" Type ]
Ext      = DotT [ "=>" Ext ]
DotT     = Base { "." Base }
Base     = name | "<" Type ">" | "{" Type "}" | "(|" DotT "=>" Type "|)" | "(" Type % "," ")"
P-       = P-Name | P-More
P-Name   = name | "(" P-Name ")"
P-More   = P-Loose | P-Dots | P-Cats | P-Cat | P-Atom
P-Loose  = P-Dot "@@" P-Dot { "@@" P-Dot }
P-Dots   = P-Part "." P-Part { "." P-Part }
P-Dot    = P-Part { "." P-Part }
P-Part   = P-Cat | P-Cats | P-Atom | P-Name
P-Cat    = P-Seq { "^" P-Seq }
P-Cats   = P-Rest "^" P-Cat | P-Cat "^" P-Rest [ "^" P-Cat ]
P-Rest   = P-Name | P-Wild | "(" P-Cats ")"
P-Seq    = "<" [ P- % "," ] ">" | "(" P-Cat ")"
P-Wild   = "_" | "(" P-Wild ")"
P-Int    = integer | "(" P-Int ")"
P-Atom   = P-Wild | P-Int | "-" P-Int | "true" | "false" | "(" P-More ")" | "(" P- "," P- % "," ")" | "{" [ P- ] "}"
`

// The grammar in a plain form. A symbol is a token or a nonterminal; the marks of the grammar are part of the nonterminal.
type grammar struct {
	text   map[string]string     // of the right side of each rule
	rules  map[string][][]string // the alternatives of each nonterminal
	height map[string]int        // of the least tree of each nonterminal
}

func readGrammar() *grammar {
	g := &grammar{text: make(map[string]string), rules: make(map[string][][]string), height: make(map[string]int)}
	last := ""
	for _, line := range strings.Split(strings.TrimSpace(grammarText), "\n") {
		if !strings.HasPrefix(line, " ") {
			name, _, _ := strings.Cut(line, " ")
			last = name
			_, line, _ = strings.Cut(line, "= ")
		}
		g.text[last] += " " + line
	}
	g.define("Program", false)
	g.define("P-", false)
	g.define("P-More", false)
	g.measure()
	return g
}

// define adds the rules of a nonterminal, directly inside a sequence or not, and returns its symbol.
func (g *grammar) define(name string, direct bool) string {
	symbol := name
	if direct {
		symbol = "<" + name
	}
	if g.rules[symbol] == nil {
		g.rules[symbol] = [][]string{nil}
		r := ruleReader{g: g, words: strings.Fields(g.text[name]), direct: direct, symbol: symbol}
		g.rules[symbol] = r.choices("")
	}
	return symbol
}

// measure computes the heights, which the generator needs to come to an end.
func (g *grammar) measure() {
	for changed := true; changed; {
		changed = false
		for symbol, all := range g.rules {
			for _, one := range all {
				if h := g.heightOf(one); h > 0 && (g.height[symbol] == 0 || h < g.height[symbol]) {
					g.height[symbol], changed = h, true
				}
			}
		}
	}
}

// heightOf returns the height of the least tree of an alternative, or 0 if it is not known.
func (g *grammar) heightOf(one []string) int {
	h := 1
	for _, s := range one {
		if g.rules[s] == nil {
			continue
		}
		if g.height[s] == 0 {
			return 0
		}
		h = max(h, g.height[s]+1)
	}
	return h
}

// ruleReader reads the right side of a rule. Each group becomes a nonterminal of its own.
type ruleReader struct {
	g      *grammar
	words  []string
	direct bool
	symbol string
	groups int
}

func (r *ruleReader) choices(closing string) [][]string {
	all := [][]string{nil}
	add := func(s string) { all[len(all)-1] = append(all[len(all)-1], s) }
	for len(r.words) > 0 {
		w := r.words[0]
		r.words = r.words[1:]
		switch w {
		case closing:
			return all
		case "|":
			all = append(all, nil)
		case "(":
			add(r.group(r.choices(")")))
		case "[":
			add(r.group(append(r.choices("]"), nil)))
		case "{":
			add(r.repeated(r.choices("}"), ""))
		case "%":
			one := all[len(all)-1]
			last := one[len(one)-1]
			add(r.repeated([][]string{{last}}, strings.Trim(r.words[0], `"`)))
			r.words = r.words[1:]
		default:
			if s := r.word(w); s != "" {
				add(s)
			} else {
				r.words = r.words[1:] // the | behind the comparison
			}
		}
	}
	return all
}

func (r *ruleReader) group(all [][]string) string {
	r.groups++
	s := r.symbol + "#" + strconv.Itoa(r.groups)
	r.g.rules[s] = all
	return s
}

// repeated returns a nonterminal for any number of choices, each behind a separator if there is one.
func (r *ruleReader) repeated(all [][]string, separator string) string {
	s := r.group(nil)
	more := [][]string{nil}
	for _, one := range all {
		if separator != "" {
			one = append([]string{separator}, one...)
		}
		more = append(more, append(slices.Clone(one), s))
	}
	r.g.rules[s] = more
	return s
}

// word returns the symbol of a word of the grammar, or the empty string for a comparison that is not permitted.
func (r *ruleReader) word(w string) string {
	if s, ok := strings.CutPrefix(w, `"`); ok {
		if s = strings.TrimSuffix(s, `"`); s == ">" && r.symbol == "<Compare" {
			return ""
		}
		return s
	}
	name := strings.TrimLeft(w, "!<~")
	if r.g.text[name] == "" {
		return name
	}
	mark := w[:len(w)-len(name)]
	s := r.g.define(name, mark == "<" || r.direct && mark != "!")
	if strings.HasPrefix(mark, "~") {
		r.g.rules[mark+s] = [][]string{{s}}
		s = mark + s
	}
	return s
}
