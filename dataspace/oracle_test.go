package dataspace_test

import (
	"math/rand"
	"slices"
	"testing"

	"cspcheck/api"
	"cspcheck/dataspace"
	"cspcheck/value"
)

// A domain permits all values or the elements of a list.
type domain struct {
	all      bool
	elements list
}

func (d domain) permits(v api.Value) bool {
	return d.all || slices.Contains(d.elements, v)
}

func (d domain) value() api.Value {
	if d.all {
		return unbounded
	}
	return value.Set(d.elements)
}

// An element is a constructor or channel.
type element struct {
	data    int
	domains []domain
}

// A space is a second implementation of the layer, which follows the sentences of the chapter and tries all lists of fields.
type space []element

// A dotted is a dotted value before it is encoded.
type dotted struct {
	name   int
	fields list
}

func (d dotted) value() api.Value { return value.Dot(d.name, d.fields) }

func (s space) infos() infos {
	var l infos
	for _, e := range s {
		info := api.Info{Data: e.data}
		for _, d := range e.domains {
			info.Domains = append(info.Domains, d.value())
		}
		l = append(l, info)
	}
	return l
}

func (s space) has(d dotted) bool {
	if d.name >= len(s) || len(d.fields) > len(s[d.name].domains) {
		return false
	}
	for i, field := range d.fields {
		if !s[d.name].domains[i].permits(field) {
			return false
		}
	}
	return true
}

// missing returns the domains of the fields that a dotted value of the space does not have.
func (s space) missing(d dotted) []domain {
	return s[d.name].domains[len(d.fields):]
}

func isUnbounded(domains []domain) bool {
	return slices.ContainsFunc(domains, func(d domain) bool { return d.all })
}

// choices returns the lists of one element of each domain, in no particular order.
func choices(domains []domain) []list {
	if len(domains) == 0 {
		return []list{nil}
	}
	var all []list
	last := len(domains) - 1
	for _, row := range choices(domains[:last]) {
		for _, v := range domains[last].elements {
			all = append(all, append(slices.Clone(row), v))
		}
	}
	return all
}

// asSet returns the set of the values, or ErrOverflow.
func asSet(l list) (api.Value, api.Errno) {
	set := value.Set(l)
	if set == "" || len(value.Parts(set)) > api.MaxSet {
		return "", api.ErrOverflow
	}
	return set, api.OK
}

// values returns all complete values of the elements with a property, in no particular order.
func (s space) values(property func(e element) bool) (list, api.Errno) {
	var l list
	for i, e := range s {
		if !property(e) {
			continue
		}
		if isUnbounded(e.domains) {
			return nil, api.ErrUnbounded
		}
		for _, row := range choices(e.domains) {
			l = append(l, dotted{i, row}.value())
		}
	}
	return l, api.OK
}

func (s space) datatype(data int) (api.Value, api.Errno) {
	l, err := s.values(func(e element) bool { return e.data == data && e.data >= 0 })
	if err != api.OK {
		return "", err
	}
	return asSet(l)
}

func (s space) events() (list, api.Errno) {
	l, err := s.values(func(e element) bool { return e.data == -1 })
	if err != api.OK {
		return nil, err
	}
	if len(l) > api.MaxEvents || slices.Contains(l, "") {
		return nil, api.ErrOverflow
	}
	return value.Sort(l), api.OK
}

func (s space) extensions(d dotted) (api.Value, api.Errno) {
	if !s.has(d) {
		return "", api.ErrDomain
	}
	if isUnbounded(s.missing(d)) {
		return "", api.ErrUnbounded
	}
	var l list
	for _, row := range choices(s.missing(d)) {
		l = append(l, value.Seq(row))
	}
	return asSet(l)
}

func (s space) productions(dots []dotted) (api.Value, api.Errno) {
	for _, d := range dots {
		if !s.has(d) {
			return "", api.ErrDomain
		}
	}
	var l list
	for _, d := range dots {
		if isUnbounded(s.missing(d)) {
			return "", api.ErrUnbounded
		}
		for _, row := range choices(s.missing(d)) {
			l = append(l, dotted{d.name, slices.Concat(d.fields, row)}.value())
		}
	}
	return asSet(l)
}

func (s space) join(d dotted, b api.Value) (api.Value, api.Errno) {
	if !s.has(d) {
		return "", api.ErrDomain
	}
	missing := s.missing(d)
	if len(missing) == 0 {
		return "", api.ErrType
	}
	if !missing[0].permits(b) {
		return "", api.ErrDomain
	}
	return dotted{d.name, append(slices.Clone(d.fields), b)}.value(), api.OK
}

// universe returns the values that random domains and fields are made of, in no particular order.
func universe() list {
	return append(otherKinds(0), n(-1), n(1), n(2), n(256), n(-300), no, seq(n(1)), set(no, yes), dot(1), dot(0, n(1)), dot(256))
}

// some returns k random values of the universe.
func some(r *rand.Rand, k int) list {
	var l list
	for range k {
		l = append(l, universe()[r.Intn(len(universe()))])
	}
	return value.Sort(l)
}

// randomSpace returns a space whose domains have up to so many elements.
func randomSpace(r *rand.Rand, most, fields int) space {
	var s space
	odds := 3 + r.Intn(30)
	for range r.Intn(6) {
		e := element{data: r.Intn(4) - 1}
		for range r.Intn(fields + 1) {
			d := domain{all: r.Intn(odds) == 0}
			if !d.all && r.Intn(12) > 0 {
				d.elements = some(r, 1+r.Intn(most))
			}
			r.Shuffle(len(d.elements), func(i, k int) { d.elements[i], d.elements[k] = d.elements[k], d.elements[i] })
			e.domains = append(e.domains, d)
		}
		s = append(s, e)
	}
	return s
}

// randomDotted returns a dotted value, which mostly belongs to the space.
func randomDotted(r *rand.Rand, s space, odds int) dotted {
	if len(s) == 0 || r.Intn(odds) == 0 {
		d := dotted{name: r.Intn(len(s) + 2)}
		for range r.Intn(5) {
			d.fields = append(d.fields, some(r, 1)...)
		}
		return d
	}
	d := dotted{name: r.Intn(len(s))}
	for _, domain := range s[d.name].domains[:r.Intn(len(s[d.name].domains)+1)] {
		switch {
		case domain.all || r.Intn(3*odds) == 0:
			d.fields = append(d.fields, some(r, 1)...)
		case len(domain.elements) > 0:
			d.fields = append(d.fields, domain.elements[r.Intn(len(domain.elements))])
		default:
			return d
		}
	}
	return d
}

// wantSame requires the result of the second implementation.
func wantSame(t *testing.T, what string, got api.Value, err api.Errno) func(want api.Value, wantErr api.Errno) {
	return func(want api.Value, wantErr api.Errno) {
		t.Helper()
		if got != want || err != wantErr {
			t.Errorf("%s is %s, error %d, want %s, error %d", what, shown(got, nil), err, shown(want, nil), wantErr)
		}
	}
}

// compareSets compares the functions that do not take a value.
func compareSets(t *testing.T, s space) {
	t.Helper()
	l := s.infos()
	for data := range 4 {
		got, err := dataspace.Values(l, data)
		wantSame(t, "Values", got, err)(s.datatype(data))
	}
	got, err := dataspace.Events(l)
	want, wantErr := s.events()
	if !slices.Equal(got, want) || err != wantErr {
		t.Errorf("there are %d events, error %d, want %d, error %d", len(got), err, len(want), wantErr)
	}
}

// compareDotted compares the functions that take a dotted value.
func compareDotted(t *testing.T, s space, d dotted, b api.Value) {
	t.Helper()
	l, v := s.infos(), d.value()
	got, err := dataspace.Extensions(l, v)
	wantSame(t, "Extensions", got, err)(s.extensions(d))
	got, err = dataspace.Join(l, v, b)
	wantSame(t, "Join", got, err)(s.join(d, b))
	if s.has(d) && len(s.missing(d)) > 0 {
		wantNext(t, "the value", l, v, s.missing(d)[0].value())
	} else {
		wantNoNext(t, "the value", l, v, s.has(d))
	}
}

// compareProductions compares the sets of what completes dotted values.
func compareProductions(t *testing.T, s space, dots []dotted) {
	t.Helper()
	var a list
	for _, d := range dots {
		a = append(a, d.value())
	}
	got, err := dataspace.Productions(s.infos(), value.Set(a))
	wantSame(t, "Productions", got, err)(s.productions(dots))
}

func TestRandomSpaces(t *testing.T) {
	r := rand.New(rand.NewSource(1))
	for range 3000 {
		s := randomSpace(r, 4, 3)
		compareSets(t, s)
		for range 5 {
			d := randomDotted(r, s, 4)
			b := some(r, 1)[0]
			if s.has(d) && len(s.missing(d)) > 0 && len(s.missing(d)[0].elements) > 0 && r.Intn(2) == 0 {
				b = s.missing(d)[0].elements[0]
			}
			compareDotted(t, s, d, b)
			var dots []dotted
			odds := 5 + r.Intn(50)
			for range r.Intn(5) {
				dots = append(dots, randomDotted(r, s, odds))
			}
			compareProductions(t, s, dots)
		}
	}
}

func TestRandomLargeSpaces(t *testing.T) {
	// Many of these have more than MaxEvents or MaxSet values.
	r := rand.New(rand.NewSource(2))
	for range 300 {
		s := randomSpace(r, 25, 4)
		compareSets(t, s)
		var dots []dotted
		for range 3 {
			d := randomDotted(r, s, 40)
			compareDotted(t, s, d, n(1))
			dots = append(dots, d)
		}
		compareProductions(t, s, dots)
	}
}

func TestArgumentsStayAsTheyAre(t *testing.T) {
	r := rand.New(rand.NewSource(3))
	for range 300 {
		s := randomSpace(r, 4, 3)
		l := s.infos()
		before := copied(l)
		v := randomDotted(r, s, 5).value()
		dataspace.Valid(l)
		dataspace.Values(l, 0)
		dataspace.Extensions(l, v)
		dataspace.Productions(l, set(v))
		dataspace.Events(l)
		dataspace.Complete(l, v)
		dataspace.Next(l, v)
		dataspace.Join(l, v, n(1))
		dataspace.Names(l)
		if !slices.EqualFunc(l, before, func(a, b api.Info) bool {
			return a.Name == b.Name && a.Data == b.Data && slices.Equal(a.Fields, b.Fields) && slices.Equal(a.Domains, b.Domains)
		}) {
			t.Fatalf("the list has changed")
		}
	}
}
