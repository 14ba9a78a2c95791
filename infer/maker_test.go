package infer_test

import (
	"math/rand"
	"slices"
	"strconv"
	"strings"

	"cspcheck/api"
	"cspcheck/infer"
	"cspcheck/scope"
	"cspcheck/types"
)

// entry is a name that is visible, with its type. Those of its variables that are free may be replaced at each use.
type entry struct {
	name string
	typ  list
	free []int
}

// maker makes sources of random programs, from expressions of given types. Mistakes is how many of a thousand types are replaced by others.
type maker struct {
	*rand.Rand
	mistakes  int
	most      int // the budget of a definition
	budget    int
	column    int // of the declarations of the block around
	numbers   int // of names and variables
	opaque    []int
	env       []entry
	constants []entry // constructors and channels
	known     bool    // whether the types of all constructors, channels and Nametypes are known before those of functions, and only functions are declared in the program
}

func integer() list            { return list{{Kind: api.TypeInt}} }
func boolean() list            { return list{{Kind: api.TypeBool}} }
func event() list              { return list{{Kind: api.TypeEvent}} }
func process() list            { return list{{Kind: api.TypeProc}} }
func data() list               { return list{{Kind: api.TypeData}} }
func sequence(t list) list     { return with(api.TypeSeq, t) }
func set(t list) list          { return with(api.TypeSet, t) }
func tuple(l ...list) list     { return with(api.TypeTuple, l...) }
func mapping(k, v list) list   { return with(api.TypeMap, k, v) }
func function(l ...list) list  { return with(api.TypeFun, l...) }
func extension(a, b list) list { return with(api.TypeExt, a, b) }

// with returns a type with parts.
func with(kind int, parts ...list) list {
	return slices.Concat(append([]list{{{Kind: kind, Kids: len(parts)}}}, parts...)...)
}

// partsOf returns the parts of a type.
func partsOf(t list) []list {
	var l []list
	next := 1
	for range t[0].Kids {
		l = append(l, t[next:endOf(t, next)])
		next = endOf(t, next)
	}
	return l
}

func newMaker(seed int) *maker {
	r := &maker{Rand: rand.New(rand.NewSource(int64(seed))), mistakes: []int{0, 0, 2, 10}[seed%4], most: 1 + seed%60, column: 1}
	for n, s := range scope.Builtins() {
		a, _ := infer.Builtin(n)
		if r.Intn(3) > 0 {
			continue
		}
		r.env = append(r.env, entry{s.Name, r.renumbered(a.Type), nil})
		last := &r.env[len(r.env)-1]
		last.free = types.Vars(last.typ)
	}
	r.constants = []entry{
		{name: "a", typ: event()},
		{name: "c", typ: extension(integer(), event())},
		{name: "d", typ: extension(integer(), extension(boolean(), event()))},
		{name: "z", typ: extension(sequence(integer()), event())},
		{name: "A", typ: data()},
		{name: "B", typ: extension(integer(), extension(boolean(), data()))},
		{name: "C", typ: extension(data(), data())},
	}
	r.env = append(r.env, entry{name: "T", typ: set(data())}, entry{name: "N", typ: set(integer())}, entry{name: "M", typ: set(integer())})
	return r
}

// renumbered returns a type with new variables.
func (r *maker) renumbered(t list) list {
	t = slices.Clone(t)
	for i, n := range t {
		if n.Kind == api.TypeVar {
			t[i].Num += r.numbers
		}
	}
	r.numbers += 10
	return t
}

func (r *maker) one(l ...string) string {
	return l[r.Intn(len(l))]
}

func (r *maker) name(prefix string) string {
	r.numbers++
	return prefix + strconv.Itoa(r.numbers)
}

// makeType returns a random type.
func (r *maker) makeType(nest int) list {
	if nest == 0 || r.Intn(3) > 0 {
		if len(r.opaque) > 0 && r.Intn(2) == 0 {
			return list{{Kind: api.TypeVar, Num: r.opaque[r.Intn(len(r.opaque))]}}
		}
		return []list{integer(), integer(), boolean(), event(), process(), data()}[r.Intn(6)]
	}
	t := func() list { return r.makeType(nest - 1) }
	switch r.Intn(9) {
	case 0, 1:
		return sequence(t())
	case 2:
		return set(r.element(nest - 1))
	case 3, 4:
		return tuple(t(), t())
	case 5:
		return mapping(r.element(nest-1), t())
	case 6:
		return with(api.TypeDot, sequence(t()), t())
	case 7:
		return extension(t(), event())
	}
	return function(t(), t())
}

// element returns a random type that may be that of an element of a set.
func (r *maker) element(nest int) list {
	for {
		t := r.makeType(nest)
		if !slices.ContainsFunc(t, func(n api.TypeNode) bool { return n.Kind == api.TypeProc || n.Kind == api.TypeFun }) {
			return t
		}
	}
}

// e returns an expression of a type, in parentheses where it may need them.
func (r *maker) e(t list) string {
	r.budget--
	if r.Intn(1000) < r.mistakes {
		if r.Intn(2) == 0 {
			return r.env[r.Intn(len(r.env))].name
		}
		t = r.makeType(2)
	}
	uses := r.uses(t)
	switch k := r.Intn(16); {
	case len(uses) > 0 && (k < 5 || r.budget < 0):
		return uses[max(r.Intn(len(uses)), r.Intn(len(uses)))]
	case r.budget < 0:
		return r.literal(t)
	case k < 7:
		return r.call(t)
	case k == 7 && r.column < 9:
		return r.let(t)
	case k == 8:
		return r.general(t)
	}
	return r.special(t)
}

// uses returns the names that have a type, also those of constants with some fields.
func (r *maker) uses(t list) []string {
	var l []string
	for _, x := range r.env {
		if _, ok := r.instance(x, x.typ, t); ok {
			l = append(l, x.name)
		}
	}
	for _, x := range r.constants {
		text := x.name
		for rest := x.typ; ; {
			if slices.Equal(rest, t) {
				l = append(l, text)
			}
			if rest[0].Kind != api.TypeExt {
				break
			}
			parts := partsOf(rest)
			text, rest = text+"."+r.literal(parts[0]), parts[1]
		}
	}
	return l
}

// instance returns what makes a part of the type of an entry equal to t.
func (r *maker) instance(x entry, part, t list) ([]api.Binding, bool) {
	s, ok := types.Match(part, t)
	for _, b := range s {
		if !slices.Contains(x.free, b.Var) && !slices.Equal(b.Type, list{{Kind: api.TypeVar, Num: b.Var}}) {
			return nil, false
		}
	}
	return s, ok
}

// call returns a call of a function whose result has a type, if one is found.
func (r *maker) call(t list) string {
	for range 20 {
		x := r.env[max(r.Intn(len(r.env)), r.Intn(len(r.env)))]
		if x.typ[0].Kind != api.TypeFun {
			continue
		}
		parts := partsOf(x.typ)
		last := len(parts) - 1
		s, ok := r.instance(x, parts[last], t)
		if !ok {
			continue
		}
		for _, v := range x.free {
			if !slices.ContainsFunc(s, func(b api.Binding) bool { return b.Var == v }) {
				s = append(s, api.Binding{Var: v, Type: r.element(1)})
			}
		}
		var arguments []string
		for _, p := range parts[:last] {
			arguments = append(arguments, r.e(replaceAll(p, s)))
		}
		return x.name + "(" + strings.Join(arguments, ", ") + ")"
	}
	return r.special(t)
}

// inside returns the text of f, whose names are not visible behind it.
func (r *maker) inside(f func() string) string {
	outside := len(r.env)
	text := f()
	r.env = r.env[:outside]
	return text
}

// general returns an expression that may have any type.
func (r *maker) general(t list) string {
	u := r.element(1)
	switch r.Intn(8) {
	case 0, 1:
		return "(if " + r.e(boolean()) + " then " + r.e(t) + " else " + r.e(t) + ")"
	case 2, 3:
		argument := r.e(u)
		return r.inside(func() string { return "(\\ " + r.pattern(u) + " @ " + r.e(t) + ")(" + argument + ")" })
	case 4:
		return r.e(function(u, t)) + "(" + r.e(u) + ")"
	case 5:
		return "(" + r.e(t) + " @@ " + r.e(t) + ")"
	case 6:
		return "mapLookup(" + r.e(mapping(u, t)) + ", " + r.e(u) + ")"
	}
	return "head(" + r.e(sequence(t)) + ")"
}

// literal returns a short expression of a type.
func (r *maker) literal(t list) string {
	var l []string
	for _, p := range partsOf(t) {
		l = append(l, r.literal(p))
	}
	switch t[0].Kind {
	case api.TypeVar:
		if uses := r.uses(t); len(uses) > 0 {
			return r.one(uses...)
		}
	case api.TypeInt:
		return r.one("0", "1", "2")
	case api.TypeBool:
		return r.one("true", "false")
	case api.TypeEvent:
		return r.one("a", "a", "c.1")
	case api.TypeProc:
		return r.one("STOP", "SKIP", "DIV")
	case api.TypeData:
		return "A"
	case api.TypeSeq:
		return r.one("<>", "<"+l[0]+">")
	case api.TypeSet:
		return r.one("{}", "{"+l[0]+"}")
	case api.TypeMap:
		return r.one("(| |)", "(| "+l[0]+" => "+l[1]+" |)")
	case api.TypeTuple:
		return "(" + strings.Join(l, ", ") + ")"
	case api.TypeDot:
		return "(" + strings.Join(l, ".") + ")"
	case api.TypeFun:
		last := len(l) - 1
		return "(\\ " + strings.Join(slices.Repeat([]string{"_"}, last), ", ") + " @ " + l[last] + ")"
	}
	return "head(<>)"
}

// special returns an expression that is made for a type.
func (r *maker) special(t list) string {
	parts := partsOf(t)
	switch t[0].Kind {
	case api.TypeInt:
		return r.integer()
	case api.TypeBool:
		return r.boolean()
	case api.TypeProc:
		return r.inside(r.process)
	case api.TypeSeq:
		return r.inside(func() string { return r.sequence(parts[0]) })
	case api.TypeSet:
		return r.inside(func() string { return r.set(parts[0]) })
	case api.TypeMap:
		return "(| " + r.e(parts[0]) + " => " + r.e(parts[1]) + ", " + r.e(parts[0]) + " => " + r.e(parts[1]) + " |)"
	case api.TypeTuple:
		return "(" + r.e(parts[0]) + ", " + r.e(parts[1]) + ")"
	case api.TypeDot:
		return "(" + r.e(parts[0]) + "." + r.e(parts[1]) + ")"
	case api.TypeFun:
		return r.inside(func() string {
			var patterns []string
			for _, p := range parts[:len(parts)-1] {
				patterns = append(patterns, r.pattern(p))
			}
			return "(\\ " + strings.Join(patterns, ", ") + " @ " + r.e(parts[len(parts)-1]) + ")"
		})
	}
	if l := r.uses(t); len(l) > 0 {
		return r.one(l...)
	}
	return r.literal(t)
}

func (r *maker) integer() string {
	x := integer()
	switch r.Intn(4) {
	case 0:
		return "(" + r.e(x) + " " + r.one("+", "-", "*", "/", "%") + " " + r.e(x) + ")"
	case 1:
		return "(-" + r.e(x) + ")"
	case 2:
		return "(#" + r.e(sequence(r.makeType(1))) + ")"
	}
	return r.literal(x)
}

func (r *maker) boolean() string {
	x := boolean()
	switch r.Intn(5) {
	case 0:
		return "(" + r.e(x) + " " + r.one("and", "or") + " " + r.e(x) + ")"
	case 1:
		return "(not " + r.e(x) + ")"
	case 2, 3:
		t := r.comparable(1)
		if r.Intn(1000) < r.mistakes {
			t = r.makeType(1)
		}
		return "(" + r.e(t) + " " + r.one("==", "!=", "<", "<=") + " " + r.e(t) + ")"
	}
	return r.literal(x)
}

// comparable returns a type whose values may be compared in each way.
func (r *maker) comparable(nest int) list {
	if nest > 0 && r.Intn(3) == 0 {
		return sequence(r.comparable(nest - 1))
	}
	if len(r.opaque) > 0 && r.Intn(2) == 0 {
		return list{{Kind: api.TypeVar, Num: r.opaque[r.Intn(len(r.opaque))]}}
	}
	return integer()
}

func (r *maker) sequence(x list) string {
	t := sequence(x)
	switch r.Intn(6) {
	case 0:
		return "<" + r.e(x) + ", " + r.e(x) + ">"
	case 1:
		return "(" + r.e(t) + " ^ " + r.e(t) + ")"
	case 2:
		gens := r.generators(false)
		return "<" + r.e(x) + " | " + gens + ">"
	case 3:
		if slices.Equal(x, integer()) {
			return r.one("<"+r.e(x)+" ..>", "<"+r.e(x)+" .. "+r.e(x)+">")
		}
	case 4:
		return "<" + r.e(x) + ">"
	}
	return r.literal(t)
}

func (r *maker) set(x list) string {
	t := set(x)
	switch r.Intn(6) {
	case 0:
		return "{" + r.e(x) + ", " + r.e(x) + "}"
	case 1:
		gens := r.generators(true)
		return "{" + r.e(x) + " | " + gens + "}"
	case 2:
		return "union(" + r.e(t) + ", " + r.e(t) + ")"
	case 3, 4:
		switch x[0].Kind {
		case api.TypeInt:
			return "{" + r.e(x) + " .. " + r.e(x) + "}"
		case api.TypeBool:
			return "Bool"
		case api.TypeEvent:
			return r.events()
		}
	}
	return r.literal(t)
}

func (r *maker) events() string {
	ext := extension(r.makeType(0), event())
	switch r.Intn(4) {
	case 0:
		return "{|" + r.e(event()) + ", " + r.e(ext) + "|}"
	case 1:
		gens := r.generators(true)
		return "{|" + r.e(ext) + " | " + gens + "|}"
	case 2:
		return "Events"
	}
	return "{|c, d." + r.e(integer()) + ", a|}"
}

// generators returns generators of sets or sequences, and conditions.
func (r *maker) generators(ofSets bool) string {
	var l []string
	for range 1 + r.Intn(2) {
		t := r.makeType(1)
		source := sequence(t)
		if ofSets {
			t = r.element(1)
			source = set(t)
		}
		text := r.e(source)
		l = append(l, r.pattern(t)+r.one(" <- ", " : ")+text)
		if r.Intn(4) == 0 {
			l = append(l, r.e(boolean()))
		}
	}
	return strings.Join(l, ", ")
}

// pattern returns a pattern of a type and makes its variables visible.
func (r *maker) pattern(t list) string {
	parts := partsOf(t)
	p := func(k int) string { return r.pattern(parts[k]) }
	k := r.Intn(3)
	switch kind := t[0].Kind; {
	case k == 0 && r.Intn(3) == 0:
		return "_"
	case k == 0 && r.Intn(3) == 0:
		return "(" + r.variable(t) + " @@ " + r.pattern(t) + ")"
	case k == 0 && kind == api.TypeInt:
		return r.one("0", "(-1)")
	case k == 0 && kind == api.TypeBool:
		return r.one("true", "false")
	case k == 0 && kind == api.TypeSeq:
		return "<>"
	case k == 0 && kind == api.TypeData:
		return "(B." + r.pattern(integer()) + "." + r.pattern(boolean()) + ")"
	case k == 0 && kind == api.TypeEvent:
		return "(d." + r.pattern(integer()) + "." + r.pattern(boolean()) + ")"
	case k == 1 && kind == api.TypeData:
		return "(C." + r.pattern(t) + ")"
	case k == 1 && kind == api.TypeSeq:
		return "(<" + p(0) + ">^" + r.variable(t) + "^<" + p(0) + ">)"
	case k == 1 && kind == api.TypeSet:
		return "{" + p(0) + "}"
	case k > 0 && kind == api.TypeTuple:
		return "(" + p(0) + ", " + p(1) + ")"
	case k > 0 && kind == api.TypeDot:
		return "(" + p(0) + "." + p(1) + ")"
	}
	return r.variable(t)
}

// variable makes a variable of a pattern visible.
func (r *maker) variable(t list) string {
	name := r.name("v")
	r.env = append(r.env, entry{name: name, typ: t})
	return name
}

func (r *maker) process() string {
	p := func() string { return r.e(process()) }
	events := func() string { return r.e(set(event())) }
	switch r.Intn(16) {
	case 0, 1, 2, 3:
		return "(" + r.prefix() + ")"
	case 4:
		return "(" + p() + r.one(" [] ", " |~| ", " ||| ", " ; ", " /\\ ", " [> ") + p() + ")"
	case 5:
		return "(" + r.e(boolean()) + " & " + p() + ")"
	case 6:
		return "(" + p() + r.one(" [| "+events()+" |] ", " [+ "+events()+" +] ", " [| "+events()+" |> ") + p() + ")"
	case 7:
		return "(" + p() + " [" + events() + " || " + events() + "] " + p() + ")"
	case 8:
		return "(" + p() + " \\ " + events() + ")"
	case 9:
		return r.renaming()
	case 10:
		return "(" + p() + " [" + r.e(event()) + " <-> " + r.e(event()) + "] " + p() + ")"
	case 11, 12:
		return "(" + r.replicated() + ")"
	case 13:
		return "prioritise(" + p() + ", " + r.e(set(tuple(event(), event()))) + ")"
	case 14:
		return "chase(" + p() + ")"
	}
	return r.literal(process())
}

func (r *maker) renaming() string {
	p := r.e(process())
	if r.Intn(2) == 0 {
		return p + "[[" + r.e(event()) + " <- " + r.e(event()) + "]]"
	}
	gens := r.generators(true)
	return p + "[[" + r.e(event()) + " <- " + r.e(event()) + ", a <- a | " + gens + "]]"
}

func (r *maker) replicated() string {
	p := func() string { return r.e(process()) }
	switch r.Intn(4) {
	case 0:
		gens := r.generators(false)
		return "; " + gens + " @ " + p()
	case 1:
		events := r.e(set(event()))
		gens := r.generators(true)
		return r.one("[| "+events+" |] ", "[+ "+events+" +] ") + gens + " @ " + p()
	case 2:
		gens := r.generators(true)
		return "|| " + gens + " @ [" + r.e(set(event())) + "] " + p()
	}
	gens := r.generators(true)
	return r.one("[] ", "|~| ", "||| ") + gens + " @ " + p()
}

func (r *maker) prefix() string {
	var fields []list
	t := event()
	if r.Intn(2) == 0 {
		for t = r.constants[r.Intn(4)].typ; t[0].Kind == api.TypeExt && r.Intn(4) == 0; {
			t = partsOf(t)[1]
		}
	} else {
		for range r.Intn(3) {
			t = extension(r.makeType(1), t)
		}
	}
	for rest := t; rest[0].Kind == api.TypeExt; rest = partsOf(rest)[1] {
		fields = append(fields, partsOf(rest)[0])
	}
	text := "(" + r.e(t) + ")"
	for _, f := range fields {
		switch r.Intn(4) {
		case 0:
			text += "!(" + r.e(f) + ")"
		case 1:
			source := r.e(set(f))
			text += r.one("?", "$") + r.pattern(f) + ":(" + source + ")"
		default:
			text += r.one("?", "$") + r.pattern(f)
		}
	}
	return text + " -> " + r.e(process())
}

// newline begins a line of the block around.
func (r *maker) newline() string {
	return "\n" + strings.Repeat(" ", r.column-1)
}

func (r *maker) let(t list) string {
	return r.inside(func() string {
		text := "(let"
		r.column += 2
		for _, d := range r.definitions(1 + r.Intn(2)) {
			text += r.newline() + d
		}
		r.column--
		text += r.newline() + "within "
		r.column--
		return text + r.e(t) + ")"
	})
}

// definitions returns functions and Binds and makes what they declare visible. Some functions use each other.
func (r *maker) definitions(n int) []string {
	var l []string
	for range n {
		if r.column == 1 {
			r.budget = 5 + r.Intn(r.most)
		}
		switch k := r.Intn(6); {
		case k == 0 && (r.column > 1 || !r.known):
			l = append(l, r.bind())
		case k == 1:
			l = append(l, r.functions(2)...)
		default:
			l = append(l, r.functions(1)...)
		}
	}
	return l
}

func (r *maker) bind() string {
	a, b := r.makeType(2), r.makeType(1)
	text := r.e(tuple(a, b))
	pattern := "(" + r.pattern(a) + ", " + r.pattern(b) + ")"
	return pattern + " = " + text
}

// functions returns functions that may use each other. The variables of their types are replaced at each use behind them.
func (r *maker) functions(n int) []string {
	outer, first := len(r.opaque), len(r.env)
	for range r.Intn(3) {
		r.numbers++
		r.opaque = append(r.opaque, r.numbers)
	}
	for range n {
		var parts []list
		for range 1 + r.Intn(2) {
			parts = append(parts, r.makeType(2))
		}
		if r.Intn(5) == 0 {
			parts = nil
		}
		t := r.makeType(2)
		for _, v := range r.opaque[outer:] {
			if len(parts) > 0 && r.Intn(3) > 0 {
				parts = append(parts, list{{Kind: api.TypeVar, Num: v}})
			}
		}
		if len(parts) > 0 {
			t = function(append(parts, t)...)
		}
		r.env = append(r.env, entry{name: r.name("f"), typ: t})
	}
	var l []string
	for _, x := range slices.Clone(r.env[first:]) {
		l = append(l, r.function(x))
	}
	for k := range r.env[first:] {
		r.env[first+k].free = slices.Clone(r.opaque[outer:])
	}
	r.opaque = r.opaque[:outer]
	return l
}

// hide makes a name unusable until the result is called.
func (r *maker) hide(name string) func() {
	k := slices.IndexFunc(r.env, func(x entry) bool { return x.name == name })
	x := r.env[k]
	r.env[k] = r.env[0]
	return func() { r.env[k] = x }
}

// function returns the clauses of a function, perhaps with a Sig.
func (r *maker) function(x entry) string {
	text := r.clause(x)
	if x.typ[0].Kind == api.TypeFun && r.Intn(4) == 0 {
		text += r.newline() + r.clause(x)
	}
	if r.Intn(12) == 0 {
		text += r.newline() + x.name + " :: " + r.signature(x.typ)
	}
	return text
}

// clause returns a clause of a function. It has parameters, unless its type is not that of a function.
func (r *maker) clause(x entry) string {
	if x.typ[0].Kind != api.TypeFun {
		if r.Intn(10) > 0 {
			defer r.hide(x.name)()
		}
		return x.name + " = " + r.e(x.typ)
	}
	return r.inside(func() string {
		parts := partsOf(x.typ)
		last := len(parts) - 1
		var patterns []string
		for _, p := range parts[:last] {
			patterns = append(patterns, r.pattern(p))
		}
		return x.name + "(" + strings.Join(patterns, ", ") + ") = " + r.e(parts[last])
	})
}

// signature writes a type as in a Sig.
func (r *maker) signature(t list) string {
	var classes []string
	for _, v := range types.Vars(t) {
		for _, class := range []string{"Eq", "Ord", "Set"} {
			if r.Intn(8) > 0 {
				classes = append(classes, class+" t"+strconv.Itoa(v))
			}
		}
	}
	text := signatureOf(t)
	if len(classes) > 0 {
		text = "(" + strings.Join(classes, ", ") + ") => " + text
	}
	return text
}

// signatureOf writes a type as in a Sig. A function with one tuple as its parameter cannot be written: this one becomes a function of the parts of the tuple.
func signatureOf(t list) string {
	text := types.Format(t, []string{"T"})
	if t[0].Kind != api.TypeFun && !slices.ContainsFunc(t, func(n api.TypeNode) bool { return n.Kind == api.TypeFun }) {
		return text
	}
	var parts []string
	for _, p := range partsOf(t) {
		parts = append(parts, signatureOf(p))
	}
	last := len(parts) - 1
	switch t[0].Kind {
	case api.TypeFun:
		return "((" + strings.Join(parts[:last], ", ") + ") -> " + parts[last] + ")"
	case api.TypeSeq:
		return "<" + parts[0] + ">"
	case api.TypeSet:
		return "{" + parts[0] + "}"
	case api.TypeMap:
		return "(| " + parts[0] + " => " + parts[1] + " |)"
	case api.TypeDot:
		return "(" + parts[0] + "." + parts[1] + ")"
	case api.TypeExt:
		return "(" + parts[0] + " => " + parts[1] + ")"
	}
	return "(" + strings.Join(parts, ", ") + ")"
}

// program returns a source.
func (r *maker) program() string {
	parts := r.definitions(2 + r.Intn(3))
	for range r.Intn(3) {
		p := r.e(process())
		parts = append(parts, r.one(
			"assert ("+p+") [F= ("+r.e(process())+")",
			"assert not ("+p+") :[deadlock free]",
			"assert ("+p+") :[has trace]: ("+r.e(sequence(event()))+")",
		))
	}
	parts = append(parts, r.declarations()...)
	r.Shuffle(len(parts), func(i, j int) { parts[i], parts[j] = parts[j], parts[i] })
	return strings.Join(parts, "\n")
}

// declarations returns the declarations of the constants.
func (r *maker) declarations() []string {
	choose := func(l ...string) string {
		if !r.known && r.Intn(3) == 0 {
			return "{}"
		}
		return r.one(l...)
	}
	ints := func() string { return choose("{0..2}", "N", "M", "{x | x <- {1, 2}, x > 1}") }
	if r.Intn(30) < r.mistakes {
		r.budget = 5
		ints = func() string { return "(" + r.one(r.e(set(integer())), r.e(set(r.makeType(1)))) + ")" }
	}
	return []string{
		"channel a",
		"channel c : " + ints(),
		"channel d : " + ints() + "." + choose("Bool", "{true}"),
		"channel z : " + choose("{<1>}"),
		"datatype T = A | B." + ints() + "." + choose("Bool", "{true}") + " | C." + choose("T", "{A}"),
		"nametype N = " + choose("{0}", "M"),
		"nametype M = " + choose("{0}", "{2..3}"),
	}
}
