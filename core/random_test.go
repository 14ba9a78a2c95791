package core_test

import (
	"testing"

	"cspcheck/api"
	"cspcheck/syntax"
)

// P13.1, and the Consequence: Lower agrees with the second implementation on random programs, and its cores are valid. R2: they share no memory with the arguments, or with each other.
func TestAgainstTheChapter(t *testing.T) {
	processes, captured := 0, 0
	for seed := range 1000 {
		src := syntax.Format(newMaker(seed).program())
		if src == "" {
			continue // the tree is too large
		}
		p, s, types := inferred(t, src)
		want := newOracle(p, s, types).lower()
		got, e := lower(t, p, s, types)
		if e != api.OK {
			t.Fatalf("seed %d: Lower of\n%s\nreturns error %d", seed, src, e)
		}
		if printed(got) != printed(want) {
			t.Fatalf("seed %d: the core of\n%s\nis\n%s\nwant\n%s", seed, src, text(got), text(want))
		}
		for _, f := range got.Funcs {
			if f.Name == "" && f.Proc {
				processes++
			}
			if f.Name == "" && f.Arity > 2 {
				captured++
			}
		}
		scribble(got)
		if got, _ = lower(t, p, s, types); printed(got) != printed(want) {
			t.Fatalf("seed %d: Lower of\n%s\nreturns another core after a change of the first one", seed, src)
		}
	}
	if processes < 1000 || captured < 300 {
		t.Errorf("only %d processes and %d functions with many parameters are lifted", processes, captured)
	}
}

// text writes the functions of a core in lines.
func text(c api.Core) string {
	var l []string
	for _, f := range c.Funcs {
		l = append(l, head(f)+": "+show(f.Body))
	}
	return lines(l...)
}

// scribble overwrites the lists of a core.
func scribble(c api.Core) {
	for _, f := range c.Funcs {
		clear(f.Body)
	}
	for _, x := range c.Names {
		clear(x.Fields)
	}
	clear(c.Funcs)
	clear(c.Names)
	clear(c.Asserts)
}
