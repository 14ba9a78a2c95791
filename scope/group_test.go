package scope_test

import (
	"math"
	"math/rand"
	"slices"
	"strconv"
	"strings"
	"testing"

	"cspcheck/api"
	"cspcheck/scope"
)

// groupsOf writes groups as the names of their symbols.
func groupsOf(p []api.Node, s []api.Symbol, i int) string {
	var l []string
	for _, group := range scope.Groups(p, s, i) {
		var names []string
		for _, k := range group {
			names = append(names, s[k].Name)
		}
		l = append(l, strings.Join(names, " "))
	}
	return strings.Join(l, " | ")
}

// wantGroups checks the groups of a program.
func wantGroups(t *testing.T, want string, src ...string) {
	t.Helper()
	p, s := resolve(t, source(t, lines(src...)))
	if got := groupsOf(p, s, 0); got != want {
		t.Errorf("groups of\n%s\nare %q, want %q", lines(src...), got, want)
	}
}

// wantLocalGroups checks the groups of the first Block of a function.
func wantLocalGroups(t *testing.T, want string, block ...string) {
	t.Helper()
	src := lines("f(x, y, z) = let", "    "+strings.Join(block, "\n    "), "  within 1")
	p, s := resolve(t, source(t, src))
	i := slices.IndexFunc(p, func(n api.Node) bool { return n.Op == api.OpBlock })
	if got := groupsOf(p, s, i); got != want {
		t.Errorf("groups of the block of\n%s\nare %q, want %q", src, got, want)
	}
	if got := groupsOf(p, s, 0); got != "f" {
		t.Errorf("groups of\n%s\nare %q", src, got)
	}
}

func TestGroups(t *testing.T) {
	wantGroups(t, "f g | h", "f(x) = g(x)", "g(x) = f(x)", "h = f(1)")
	wantGroups(t, "f", "f = 1")
	wantGroups(t, "f", "f = f")
	wantGroups(t, "a b c d e", "a = b", "b = c", "c = d", "d = e", "e = a")
	wantGroups(t, "b c | d e | a", "a = (b, d)", "b = (c, 1)", "c = b", "d = (e, c)", "e = d")
	wantGroups(t, "a b c d", "a = (b, c)", "b = d", "c = d", "d = a")
}

func TestOrderOfGroups(t *testing.T) {
	wantGroups(t, "a | b | c", "a = 1", "b = 2", "c = 3")
	wantGroups(t, "c | b | a", "a = b", "b = c", "c = 1")
	wantGroups(t, "b | d | a | c", "a = d", "b = 1", "c = d", "d = b")
	wantGroups(t, "b | c | a | d", "a = (b, c)", "b = 1", "c = 1", "d = 1")
	wantGroups(t, "c | a | b", "a = c", "b = a", "c = 1")
	wantGroups(t, "d | b | c | a", "a = c", "b = d", "c = d", "d = 1")
	wantGroups(t, "b | c | a d | e", "a = (d, b)", "b = 1", "c = 1", "d = (a, c)", "e = 1")
}

func TestBindsAreUnits(t *testing.T) {
	wantGroups(t, "a | b c | d", "a = 1", "(b, <c>) = a", "d = c")
	wantGroups(t, "a b c d", "(a, b) = d", "(c, d) = a")
	wantGroups(t, "b | a c | d e", "(a, c) = b", "b = 1", "(d, e) = 1", "(_, 1) = a")
	wantGroups(t, "a b", "(a, b) = a")
	wantGroups(t, "", "(1, _) = 1", "assert STOP [T= STOP")
	wantGroups(t, "a", "(x, c, a) = x", "datatype T = x", "channel c : {a}")
}

func TestAllClausesAreRead(t *testing.T) {
	wantGroups(t, "f g", "f(1) = 1", "f(2) = g", "f(3) = 3", "g = f(1)")
	wantGroups(t, "b | c | f", "f(1) = c", "f(2) = b", "b = 1", "c = b")
	wantLocalGroups(t, "h | g | i", "g(1) = 1", "g(2) = h", "h = 1", "i = g(1)")
}

func TestUsesInside(t *testing.T) {
	wantGroups(t, "b c d | a", "a = \\ x @ let y = <z.b | z <- c> within y", "b = c", "c = d", "d = b?x:c!b -> SKIP")
	wantGroups(t, "a | b", "a = \\ b @ let a = b within a", "b = 1")
}

func TestLocalGroups(t *testing.T) {
	wantLocalGroups(t, "a", "a = f(x)")
	wantLocalGroups(t, "b c | a", "a = b", "(b, _) = c", "c(x) = (x, b)")
	wantLocalGroups(t, "f", "f = f", "f :: Int", "(_, 1) = f")
	wantLocalGroups(t, "y z | x", "x = y", "(y, z) = 1")
	wantLocalGroups(t, "b | a", "a = let (b1, c) = (a, b1) within b", "b = 1")
}

func TestGroupsOfOtherNodes(t *testing.T) {
	p, s := resolve(t, source(t, "f = let g = 1 within g"))
	for i, n := range p {
		groups := scope.Groups(p, s, i)
		if has := len(groups) > 0; has != (n.Op == api.OpProgram || n.Op == api.OpBlock) {
			t.Errorf("Groups(%d) = %v", i, groups)
		}
	}
	for _, i := range []int{-1, len(p), -1 << 63, 1<<63 - 1} {
		if groups := scope.Groups(p, s, i); len(groups) != 0 {
			t.Errorf("Groups(%d) = %v", i, groups)
		}
	}
}

func TestGroupsShareNoMemory(t *testing.T) {
	p, s := resolve(t, source(t, "(a, b) = 1\nc = (d, a)\nd = c"))
	first := scope.Groups(p, s, 0)
	first[0] = append(first[0], 7)
	first[0][0], first[1][0] = 0, 0
	if got := groupsOf(p, s, 0); got != "a b | c d" {
		t.Errorf("groups are %q after a change of a result", got)
	}
}

func TestManyGroups(t *testing.T) {
	p, s := resolve(t, source(t, lines(repeated(1000, "f# = g#"), repeated(1000, "g# = 1"))))
	var names, want []string
	for k := range 1000 {
		want = append(want, "g"+strconv.Itoa(k), "f"+strconv.Itoa(k))
	}
	for _, group := range scope.Groups(p, s, 0) {
		names = append(names, s[group[0]].Name)
	}
	if !slices.Equal(names, want) {
		t.Errorf("groups are %.300q", names)
	}
}

// Free and Groups promise nothing for arguments that Resolve has not returned, but that they return.
func TestWildArguments(t *testing.T) {
	r := rand.New(rand.NewSource(1))
	ops := []int{0, api.OpProgram, api.OpBlock, api.OpFun, api.OpBind, api.OpName, api.OpLet, api.OpParams}
	numbers := []int{math.MinInt, -2, -1, 0, 0, 0, 1, 1, 2, 3, 5, math.MaxInt}
	for range 20000 {
		p := make([]api.Node, r.Intn(8))
		for i := range p {
			p[i] = api.Node{Op: ops[r.Intn(len(ops))], Int: int64(numbers[r.Intn(len(numbers))]), Kids: numbers[r.Intn(len(numbers))]}
		}
		s := make([]api.Symbol, r.Intn(4))
		for i := range s {
			s[i] = api.Symbol{Kind: r.Intn(10) - 1, Node: numbers[r.Intn(len(numbers))]}
		}
		for i := -1; i <= len(p); i++ {
			scope.Free(p, s, i)
			scope.Groups(p, s, i)
		}
	}
	large := slices.Repeat([]api.Node{{Op: api.OpProgram, Kids: 1}}, 100000)
	scope.Groups(large, nil, 0)
	scope.Free(large, nil, 0)
}
