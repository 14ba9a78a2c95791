package types_test

import (
	"math/rand"
	"slices"
	"testing"

	"cspcheck/api"
	"cspcheck/types"
)

// maker makes random types with few variables.
type maker struct {
	*rand.Rand
	first     int          // the least variable of a type
	variables int          // how many there are
	values    map[int]list // of the variables of patterns
}

const patternVariables = 9

func newMaker(seed int64, variables int) *maker {
	return &maker{Rand: rand.New(rand.NewSource(seed)), variables: variables, values: map[int]list{}}
}

// parts returns a number of parts that a kind permits.
func (r *maker) parts(kind int) int {
	switch kind {
	case api.TypeSeq, api.TypeSet:
		return 1
	case api.TypeTuple:
		return 2 + r.Intn(2)
	case api.TypeFun:
		return 1 + r.Intn(3)
	}
	return 2
}

// makeType returns a type that is nested at most nest deep.
func (r *maker) makeType(nest int) list {
	if nest == 1 || r.Intn(4) == 0 {
		if r.variables > 0 && r.Intn(3) > 0 {
			return variable(r.first + r.Intn(r.variables))
		}
		kind := api.TypeInt + r.Intn(5)
		if kind == api.TypeData {
			return data(r.Intn(2))
		}
		return node(kind)
	}
	kind := api.TypeSeq + r.Intn(7)
	if r.Intn(2) == 0 {
		kind = api.TypeTuple
	}
	var parts []list
	for range r.parts(kind) {
		parts = append(parts, r.makeType(nest-1))
	}
	return with(kind, parts...)
}

// pattern returns a type in which variables stand for parts of x. Their values make it x.
func (r *maker) pattern(x list) list {
	if r.Intn(3) == 0 {
		var free []int
		for v := range patternVariables {
			if by, ok := r.values[v]; !ok || slices.Equal(by, x) {
				free = append(free, v)
			}
		}
		if len(free) > 0 {
			v := free[r.Intn(len(free))]
			r.values[v] = x
			return variable(v)
		}
	}
	out := list{x[0]}
	next := 1
	for range x[0].Kids {
		out = append(out, r.pattern(x[next:endOf(x, next)])...)
		next = endOf(x, next)
	}
	return out
}

// mutated returns a type in which one node may have changed to another one without parts.
func (r *maker) mutated(x list) list {
	i := r.Intn(len(x))
	if x[i].Kids > 0 {
		return x
	}
	return slices.Concat(x[:i], r.makeType(1+r.Intn(2)), x[i+1:])
}

// P7.3: Unify agrees with unification that replaces everywhere at once.
func TestUnifyOfRandomTypes(t *testing.T) {
	r := newMaker(1, 0)
	counts := map[api.Errno]int{}
	for range 60000 {
		r.variables = 1 + r.Intn(6)
		a := r.makeType(2 + r.Intn(4))
		b := r.makeType(2 + r.Intn(4))
		if r.Intn(4) > 0 {
			clear(r.values)
			a, b = r.mutated(r.pattern(a)), r.mutated(r.pattern(a))
		}
		want, code, ok := slowUnify(a, b)
		if !ok {
			continue
		}
		counts[code]++
		got, e := unify(t, a, b)
		if e != code || !equalBindings(got, want) {
			t.Fatalf("Unify(%v, %v) = %v, error %d, want %v, error %d", a, b, got, e, want, code)
		}
	}
	for _, code := range []api.Errno{api.OK, api.ErrType, api.ErrInfinite} {
		if counts[code] < 1000 {
			t.Errorf("error %d: %d pairs of types only", code, counts[code])
		}
	}
}

// P7.3: Unify agrees with unification that replaces everywhere at once, also on types that grow.
func TestUnifyOfRandomLargeTypes(t *testing.T) {
	r := newMaker(2, 0)
	counts := map[api.Errno]int{}
	for range 4000 {
		n := 3 + r.Intn(8)
		r.variables = n
		var a, b []list
		for _, v := range r.Perm(n) {
			next := variable(v + 1 + r.Intn(2))
			if r.Intn(40) == 0 {
				next = r.makeType(2)
			}
			by := []list{tuple(next, next, next), tuple(next, next), nested(r.Intn(40), next), next}
			a = append(a, variable(v))
			b = append(b, by[r.Intn(len(by))])
			if r.Intn(20) == 0 {
				a = append(a, variable(v))
				b = append(b, r.makeType(2))
			}
		}
		x, y := grouped(a), grouped(b)
		want, code, ok := slowUnify(x, y)
		if !ok {
			continue
		}
		counts[code]++
		got, e := unify(t, x, y)
		if e != code || !equalBindings(got, want) {
			t.Fatalf("Unify(%v, %v) = %v, error %d, want %v, error %d", x, y, got, e, want, code)
		}
	}
	for _, code := range []api.Errno{api.OK, api.ErrType, api.ErrInfinite, api.ErrFull} {
		if counts[code] < 100 {
			t.Errorf("error %d: %d pairs of types only", code, counts[code])
		}
	}
}

// P7.3: each other substitution that makes two types equal is an instance of the most general one.
func TestMostGeneralUnifier(t *testing.T) {
	r := newMaker(3, 3)
	r.first = 100 // so that the variables of patterns are others
	replaced := 0
	for range 20000 {
		x := r.makeType(2 + r.Intn(4))
		clear(r.values)
		a, b := r.pattern(x), r.pattern(x)
		var other []binding
		for v := range patternVariables {
			if by, ok := r.values[v]; ok {
				other = append(other, binding{Var: v, Type: by})
			}
		}
		s, e := unify(t, a, b)
		if e != api.OK {
			t.Fatalf("Unify(%v, %v): error %d, but %v makes them equal", a, b, e, other)
		}
		replaced += len(s)
		for _, v := range types.Vars(append(slices.Clone(a), b...)) {
			if got, want := apply(t, other, apply(t, s, variable(v))), apply(t, other, variable(v)); !slices.Equal(got, want) {
				t.Fatalf("Unify(%v, %v) = %v, of which %v is no instance", a, b, s, other)
			}
		}
	}
	if replaced < 10000 {
		t.Errorf("only %d variables were replaced", replaced)
	}
}

// P7.4: Match finds what makes a pattern equal to a type.
func TestMatchOfRandomTypes(t *testing.T) {
	r := newMaker(4, 3)
	matches := 0
	for range 20000 {
		clear(r.values)
		b := r.makeType(2 + r.Intn(3))
		a := r.mutated(r.pattern(b))
		b = r.mutated(b)
		want, wantOk := slowMatch(a, b)
		got, ok := match(t, a, b)
		if ok != wantOk || ok && !equalBindings(got, want) {
			t.Fatalf("Match(%v, %v) = %v, %v, want %v, %v", a, b, got, ok, want, wantOk)
		}
		if ok {
			matches++
		}
	}
	if matches < 2000 || matches > 18000 {
		t.Errorf("%d types match", matches)
	}
}

// P7.4: Canon is idempotent, and equal for types that differ in the numbers of their variables only.
func TestCanonOfRandomTypes(t *testing.T) {
	r := newMaker(5, 5)
	for range 5000 {
		x := r.makeType(2 + r.Intn(4))
		var renumbered []binding
		for v, number := range r.Perm(r.variables) {
			renumbered = append(renumbered, binding{Var: v, Type: variable(3 * number)})
		}
		c := types.Canon(x)
		for i, v := range types.Vars(c) {
			if v != i {
				t.Fatalf("Canon(%v) = %v", x, c)
			}
		}
		wantCanon(t, x, c)
		wantCanon(t, apply(t, renumbered, x), c)
		if _, ok := types.Match(x, c); !ok {
			t.Fatalf("%v does not match Canon of it, %v", x, c)
		}
	}
}

// P7.5: the variables that Needs returns must belong to the classes, and no others.
func TestNeedsOfRandomTypes(t *testing.T) {
	r := newMaker(6, 3)
	for range 20000 {
		x := r.makeType(1 + r.Intn(4))
		for classes := range allClasses + 1 {
			if !membership(x, classes, types.Vars(x)) {
				wantNoNeeds(t, x, classes)
				continue
			}
			var least []int
			for v := range r.variables {
				others := slices.DeleteFunc([]int{0, 1, 2}, func(w int) bool { return v == w })
				if !membership(x, classes, others) {
					least = append(least, v)
				}
			}
			wantNeeds(t, x, classes, least...)
		}
	}
}

// membership reports whether a type belongs to all given classes if just the given variables do.
func membership(x list, classes int, variables []int) bool {
	for _, class := range []int{api.ClassEq, api.ClassOrd, api.ClassSet} {
		if classes&class != 0 && !belongs(x, class, variables) {
			return false
		}
	}
	return true
}

// R1: no list makes a function panic, and those that are no types have no results.
func TestRandomLists(t *testing.T) {
	r := newMaker(7, 2)
	for range 50000 {
		x := slices.Clone(r.makeType(1 + r.Intn(4)))
		for range r.Intn(3) {
			i := r.Intn(len(x))
			x[i].Kids += r.Intn(3) - 1
			x[i].Num -= r.Intn(2)
			x = append(x[:i], x[min(len(x), i+r.Intn(2)):]...)
			if len(x) == 0 {
				break
			}
		}
		y := r.makeType(3)
		valid := types.Valid(x)
		s, e := types.Unify(x, y)
		if (e == api.ErrInvalid) == valid || e != api.OK && len(s) != 0 {
			t.Fatalf("Unify(%v, %v) = %v, error %d", x, y, s, e)
		}
		if _, e := types.Unify(y, x); (e == api.ErrInvalid) == valid {
			t.Fatalf("Unify(%v, %v) is error %d", y, x, e)
		}
		if _, ok := types.Match(variable(0), x); ok != valid {
			t.Fatalf("Match(t0, %v) is %v", x, ok)
		}
		if _, ok := types.Match(x, x); ok != valid {
			t.Fatalf("Match(%v, %v) is %v", x, x, ok)
		}
		if _, ok := types.Needs(x, 0); ok != valid {
			t.Fatalf("Needs(%v, 0) is %v", x, ok)
		}
		if got := types.Canon(x); len(got) != 0 != valid {
			t.Fatalf("Canon(%v) = %v", x, got)
		}
		if got := types.Format(x, []string{"A"}); got != "" != valid {
			t.Fatalf("Format(%v) = %q", x, got)
		}
		if got := types.Apply(bind(0, x), variable(0)); !slices.Equal(got, x) && valid || len(got) != 0 && !valid {
			t.Fatalf("Apply of %v to t0 is %v", x, got)
		}
		if got := types.Apply(nil, x); !slices.Equal(got, x) && valid || len(got) != 0 && !valid {
			t.Fatalf("Apply of nothing to %v is %v", x, got)
		}
	}
}
