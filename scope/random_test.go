package scope_test

import (
	"math/rand"
	"slices"
	"strings"
	"testing"

	"cspcheck/api"
	"cspcheck/scope"
	"cspcheck/syntax"
)

// maker makes sources of random programs with few names. Mistakes is how many of a thousand choices are made without care.
type maker struct {
	*rand.Rand
	mistakes int
	budget   int
	fresh    []string // the names that the pattern or block at hand has not declared yet
}

func (r *maker) errs() bool {
	return r.Intn(1000) < r.mistakes
}

func (r *maker) one(l ...string) string {
	return l[r.Intn(len(l))]
}

func names() []string {
	return []string{"a", "b", "c", "d", "e", "f", "g", "h", "A", "B", "C"}
}

// name returns a name that the program declares, or a builtin.
func (r *maker) name() string {
	switch {
	case r.errs():
		return "x"
	case r.Intn(15) == 0:
		return r.one("card", "Int", "union")
	}
	return r.one(names()...)
}

// shuffled returns names to declare.
func (r *maker) shuffled(more ...string) []string {
	l := append(names(), more...)
	r.Shuffle(len(l), func(i, j int) { l[i], l[j] = l[j], l[i] })
	return l
}

// declared returns a name that has not been declared yet.
func (r *maker) declared() string {
	if r.errs() || len(r.fresh) == 0 {
		return r.name()
	}
	name := r.fresh[0]
	r.fresh = r.fresh[1:]
	return name
}

// fill replaces the marks in a template: E by an expression, L by a Let, P by a pattern of its own, Q by a part of the pattern at hand, N by a name of it. The column is that of the declarations of the block around.
func (r *maker) fill(template string, column int) string {
	parts := strings.Split(template, "%")
	var b strings.Builder
	b.WriteString(parts[0])
	for _, part := range parts[1:] {
		switch part[0] {
		case 'E':
			b.WriteString(r.expression(column))
		case 'P':
			r.fresh = r.shuffled("card")
			b.WriteString(r.pattern())
		case 'Q':
			b.WriteString(r.pattern())
		case 'N':
			b.WriteString(r.declared())
		case 'L':
			b.WriteString(r.let(column))
		}
		b.WriteString(part[1:])
	}
	return b.String()
}

func (r *maker) pattern() string {
	r.budget--
	if len(r.fresh) == 0 {
		return "_"
	}
	if r.budget > 0 && r.Intn(2) == 0 {
		return r.fill(r.one("(%Q, %Q)", "<%Q, %Q>", "{%Q}", "(%Q.%Q)", "(%Q @@ %Q)", "(%N^<%Q>)", "1", "_"), 0)
	}
	return r.declared()
}

func (r *maker) expression(column int) string {
	r.budget--
	if r.budget < 0 || r.Intn(4) == 0 {
		return r.name()
	}
	return r.fill(r.one(
		"(%E, %E)", "(%E(%E))", "(| %E => %E |)", "(%E [%E <-> %E] %E)",
		"(\\ %P @ %E)", "(\\ %P, %Q @ %E)",
		"<%E | %P <- %E, %P <- %E>", "{%E | %P <- %E, %E, %P <- %E}", "{|%E | %E, %P <- %E|}",
		"(%E[[%E <- %E, %E <- %E | %P <- %E, %P <- %E]])", "(%E[[%E <- %E]])",
		"([] %P : %E, %P : %E @ %E)", "(; %P <- %E @ %E)", "(|| %P : %E, %P : %E @ [%E] %E)", "([| %E |] %P : %E @ %E)", "([+ %E +] %P : %E, %E @ %E)",
		"(%E?%P!(%E)?%P:(%E)$%P -> %E)", "(%E?%P:(%E) -> %E?%P -> %E)",
		"%L", "%L", "%L",
	), column)
}

// let returns a Let, whose declarations begin new lines.
func (r *maker) let(column int) string {
	indent := strings.Repeat(" ", column+1)
	saved := r.fresh
	b := "(let\n"
	fresh := r.shuffled("card")
	for range 1 + r.Intn(3) {
		b += indent + strings.ReplaceAll(r.definition(&fresh, column+2), "\n;", "\n"+indent) + "\n"
	}
	r.fresh = saved
	return b + indent[1:] + " within " + r.expression(column) + ")"
}

// definition returns a Bind or a function that declares fresh names, perhaps with a Sig. Lines of it that begin declarations, but the first one, are marked with a semicolon.
func (r *maker) definition(fresh *[]string, column int) string {
	r.fresh = *fresh
	left, isBind := "%N", r.Intn(4) == 0
	if isBind {
		left = r.one("(%N, %Q)", "<%Q, %N>", "(_, {%N})")
	}
	left = r.fill(left, 0)
	*fresh = r.fresh
	if isBind {
		return left + r.fill(" = %E", column)
	}
	s := left + r.fill(r.one(" = %E", "(%P, %Q) = %E"), column)
	if r.Intn(2) == 0 {
		s = left + r.fill("(%P) = %E", column)
		for r.Intn(2) == 0 {
			s += "\n;" + left + r.fill(r.clause(), column)
		}
	}
	sig := left + " :: " + r.signature()
	return r.one(s, s, s, s+"\n;"+sig, sig+"\n;"+s)
}

// clause returns the template of a further clause of a function with one parameter.
func (r *maker) clause() string {
	if r.mistakes > 0 && r.Intn(25) == 0 {
		return r.one(" = %E", "(%P, %Q) = %E", "(%P, %Q) = %E")
	}
	return "(%P) = %E"
}

func (r *maker) signature() string {
	if r.errs() {
		return r.one("U", "(Num a) => a", "<a>", "Nat")
	}
	return r.one("T", "(Eq a) => <a>", "(Int, {T}) -> Proc", "Event.Bool", "a")
}

// program returns a source that declares all names.
func (r *maker) program() string {
	fresh := r.shuffled()
	take := func() string {
		r.fresh = fresh
		name := r.declared()
		fresh = r.fresh
		return name
	}
	parts := []string{
		"datatype T = " + take() + r.fill(" | ", 1) + take() + ".(" + r.fill("%E", 1) + ")",
		"channel " + take() + ", " + take(),
		"channel " + take() + r.fill(r.one(" : %E", " : (%E).(%E)", " : %E.%E.%E"), 1),
		"nametype " + take() + r.fill(" = %E", 1),
		r.fill("assert %E [T= %E", 1),
	}
	for len(fresh) > 0 {
		parts = append(parts, strings.ReplaceAll(r.definition(&fresh, 1), "\n;", "\n"))
	}
	r.Shuffle(len(parts), func(i, j int) { parts[i], parts[j] = parts[j], parts[i] })
	return lines(parts...) + "\n"
}

func (o *oracle) firstError() (api.Pos, api.Errno) {
	for i, n := range o.p {
		if e := o.errorAt(i); e != api.OK {
			return n.Pos, e
		}
	}
	return api.Pos{}, api.OK
}

func TestAgainstTheChapter(t *testing.T) {
	counts := map[api.Errno]int{}
	for seed := range 1000 {
		r := &maker{Rand: rand.New(rand.NewSource(int64(seed))), mistakes: []int{0, 0, 10, 40}[seed%4], budget: 10 + seed%60}
		src := r.program()
		if _, _, e := syntax.Source(src); e == api.ErrFull {
			continue // it is too deep
		}
		p := source(t, src)
		o := newOracle(p)
		at, want := o.firstError()
		counts[want]++
		if want != api.OK {
			wantErrorOf(t, p, at, want)
			continue
		}
		q, s := resolve(t, p)
		wantQ, wantS := o.resolve()
		if !slices.Equal(s, wantS) {
			t.Fatalf("seed %d: symbols of\n%s\nare\n%v\nwant\n%v", seed, src, s, wantS)
		}
		for i := range q {
			if q[i] != wantQ[i] {
				t.Errorf("seed %d: node %d of\n%s\nis %v, want %v", seed, i, src, q[i], wantQ[i])
			}
			if got, want := scope.Free(q, s, i), o.free(q, s, i); !slices.Equal(got, want) {
				t.Errorf("seed %d: in\n%s\n%v are free in node %d, want %v", seed, src, got, i, want)
			}
			if op := q[i].Op; op == api.OpBlock || op == api.OpProgram {
				if got, want := scope.Groups(q, s, i), o.groups(q, s, i); !slices.EqualFunc(got, want, slices.Equal) {
					t.Errorf("seed %d: in\n%s\nthe groups of node %d are %v, want %v", seed, src, i, got, want)
				}
			}
		}
	}
	for _, e := range []api.Errno{api.OK, api.ErrDuplicate, api.ErrType, api.ErrName} {
		if counts[e] < 15 {
			t.Errorf("the errors occur in these numbers: %v", counts)
		}
	}
}
