package syntax_test

import (
	"strings"

	"cspcheck/api"
)

// oracle finds the first token at which no continuation of a list of tokens is derived from the grammar, by Earley's method: an item is an alternative of a nonterminal of which a part has been read.
type oracle struct {
	g       *grammar
	tokens  []api.Token
	sets    [][]item
	known   []map[string]bool
	pattern map[string]bool // patterns that have been looked at
}

type item struct {
	symbol string
	choice int
	done   int
	origin int
}

func (g *grammar) oracle(tokens []api.Token) *oracle {
	return &oracle{g: g, tokens: tokens, pattern: make(map[string]bool)}
}

// firstError returns the index of the token with the error, the number of tokens if they end too early, or -1 if they are derived from a symbol.
func (o *oracle) firstError(symbol string) int {
	o.sets = make([][]item, len(o.tokens)+1)
	o.known = make([]map[string]bool, len(o.tokens)+1)
	o.predict(0, symbol)
	for i := range o.sets {
		if len(o.sets[i]) == 0 {
			return i - 1
		}
		for k := 0; k < len(o.sets[i]); k++ {
			o.advance(i, o.sets[i][k])
		}
	}
	for _, x := range o.sets[len(o.tokens)] {
		if x.symbol == symbol && x.origin == 0 && x.done == len(o.g.rules[symbol][x.choice]) {
			return -1
		}
	}
	return len(o.tokens)
}

func (o *oracle) add(at int, x item) {
	if o.known[at] == nil {
		o.known[at] = make(map[string]bool)
	}
	key := x.symbol + " " + numbers(x.choice, x.done, x.origin)
	if !o.known[at][key] {
		o.known[at][key] = true
		o.sets[at] = append(o.sets[at], x)
	}
}

func (o *oracle) predict(at int, symbol string) {
	if !o.isChosen(at, symbol) {
		return
	}
	for choice := range o.g.rules[symbol] {
		o.add(at, item{symbol: symbol, choice: choice, origin: at})
	}
}

// isChosen tells which declaration begins with a name.
func (o *oracle) isChosen(at int, symbol string) bool {
	kind := strings.TrimPrefix(symbol, "<")
	if kind != "Fun" && kind != "Bind" && kind != "Signed" {
		return true
	}
	chosen := "Bind"
	if at+1 < len(o.tokens) && o.tokens[at].Kind == api.TokenName {
		switch o.tokens[at+1].Str {
		case "=", "(":
			chosen = "Fun"
		case "::":
			chosen = "Signed"
		}
	}
	return kind == chosen
}

func (o *oracle) advance(at int, x item) {
	right := o.g.rules[x.symbol][x.choice]
	if x.done == len(right) {
		o.complete(at, x)
		return
	}
	next := right[x.done]
	moved := x
	moved.done++
	if o.g.rules[next] == nil {
		if at < len(o.tokens) && isToken(o.tokens[at], next) {
			o.add(at+1, moved)
		}
		return
	}
	o.predict(at, next)
	// What is empty here has been completed, perhaps before this item was added.
	if o.isEmptyAt(at, next) {
		o.add(at, moved)
	}
}

func (o *oracle) isEmptyAt(at int, symbol string) bool {
	for choice, right := range o.g.rules[symbol] {
		if len(right) == 0 && o.known[at][symbol+" "+numbers(choice, 0, at)] {
			return true
		}
	}
	return false
}

func (o *oracle) complete(at int, x item) {
	if !o.isPermitted(at, x) {
		return
	}
	for k := 0; k < len(o.sets[x.origin]); k++ {
		y := o.sets[x.origin][k]
		right := o.g.rules[y.symbol][y.choice]
		if y.done < len(right) && right[y.done] == x.symbol {
			y.done++
			o.add(at, y)
		}
	}
}

// isPermitted reports whether what has been read is a pattern, if it must be one.
func (o *oracle) isPermitted(at int, x item) bool {
	start := "P-"
	if strings.HasPrefix(x.symbol, "~~") {
		start = "P-More"
	}
	if !strings.HasPrefix(x.symbol, "~") || strings.Contains(x.symbol, "#") {
		return true
	}
	key := start + numbers(x.origin, at)
	is, known := o.pattern[key]
	if !known {
		is = o.g.oracle(o.tokens[x.origin:at]).firstError(start) < 0
		o.pattern[key] = is
	}
	return is
}

func isToken(x api.Token, symbol string) bool {
	switch symbol {
	case "name":
		return x.Kind == api.TokenName
	case "small":
		return x.Kind == api.TokenName && 'a' <= x.Str[0] && x.Str[0] <= 'z'
	case "integer":
		return x.Kind == api.TokenInt
	case "Open":
		return x.Kind == api.TokenOpen
	case "Sep":
		return x.Kind == api.TokenSep
	case "Close":
		return x.Kind == api.TokenClose
	}
	return x.Str == symbol
}
