package timed_test

import (
	"slices"
	"strconv"
	"strings"
	"testing"

	"cspcheck/api"
	"cspcheck/syntax"
)

// oracle translates by the rows of the chapter's table, which are written as sources. In them, K0, K1, .. stand for the translations of the children of a node.
type oracle struct {
	t       *testing.T
	section int
}

// row returns the row of a node, or "" if it has none.
func row(n api.Node) string {
	switch n.Op {
	case api.OpStop:
		return "T'stop"
	case api.OpSkip:
		return "T'skip"
	case api.OpGuard:
		return "if K0 then K1 else T'stop"
	case api.OpExtern:
		return "K0 [+ {T'tock} +] K1"
	case api.OpSync:
		return "K0 [+ T'union(K1, {T'tock}) +] K2"
	case api.OpInter:
		return "K0 [| {T'tock} |] K1"
	case api.OpParallel:
		return "K0 [| T'union(K1, {T'tock}) |] K2"
	case api.OpAlpha:
		return "K0 [T'union(K1, {T'tock}) || T'union(K2, {T'tock})] K3"
	case api.OpHide:
		return "K0 \\ T'diff(K1, {T'tock})"
	case api.OpRepeat:
		return repeatRow(int(n.Int))
	}
	return ""
}

func repeatRow(op int) string {
	switch op {
	case api.OpExtern:
		return "[+ {T'tock} +] K0 @ K1"
	case api.OpInter:
		return "[| {T'tock} |] K0 @ K1"
	case api.OpParallel:
		return "[| T'union(K0, {T'tock}) |] K1 @ K2"
	case api.OpSync:
		return "[+ T'union(K0, {T'tock}) +] K1 @ K2"
	case api.OpAlpha:
		return "|| K0 @ [T'union(K1, {T'tock})] K2"
	}
	return ""
}

const prefixRow = "let\n  T'here = K0 [] (T'tock -> T'here)\n within T'here"

// split returns the children of the root of a tree.
func split(tree []api.Node) [][]api.Node {
	var l [][]api.Node
	rest := tree[1:]
	for range tree[0].Kids {
		end := 0
		for missing := 1; missing > 0; end++ {
			missing += rest[end].Kids - 1
		}
		l = append(l, rest[:end])
		rest = rest[end:]
	}
	return l
}

// join returns a tree with other children.
func join(root api.Node, kids ...[]api.Node) []api.Node {
	root.Kids = len(kids)
	return append([]api.Node{root}, slices.Concat(kids...)...)
}

// fill returns a row for a node at a position.
func (o *oracle) fill(row string, at api.Pos, kids ...[]api.Node) []api.Node {
	program, _, e := syntax.Source("X = " + row)
	if e != api.OK {
		o.t.Fatalf("row %s: error %d", row, e)
	}
	return fillIn(withoutPrimes(split(split(program)[0])[1]), at, kids)
}

// fillIn fills a row in. A Params whose only child stands for a Params stands for this itself.
func fillIn(tree []api.Node, at api.Pos, kids [][]api.Node) []api.Node {
	n := tree[0]
	if k, ok := strings.CutPrefix(n.Str, "K"); ok {
		i, _ := strconv.Atoi(k)
		return kids[i]
	}
	var l [][]api.Node
	for _, kid := range split(tree) {
		l = append(l, fillIn(kid, at, kids))
	}
	if n.Op == api.OpParams {
		if len(l) == 1 && l[0][0].Op == api.OpParams {
			return l[0]
		}
		return join(api.Node{Op: api.OpParams}, l...)
	}
	n.Pos = at
	return join(n, l...)
}

func (o *oracle) translate(tree []api.Node) []api.Node {
	n := tree[0]
	if n.Op == api.OpPrefix {
		return o.prefix(tree)
	}
	var kids [][]api.Node
	for _, kid := range split(tree) {
		kids = append(kids, o.translate(kid))
	}
	if row := row(n); row != "" {
		return o.fill(row, n.Pos, kids...)
	}
	return join(n, kids...)
}

func (o *oracle) prefix(tree []api.Node) []api.Node {
	n := tree[0]
	parts := split(tree)
	event := o.translate(parts[0])
	kids := [][]api.Node{event}
	wilds := 0
	for _, field := range parts[1 : len(parts)-1] {
		inside := split(field)
		for i := range inside {
			inside[i] = o.translate(inside[i])
		}
		sent := inside[0]
		if field[0].Op != api.OpOutput {
			for i := range inside[0] {
				if inside[0][i].Op == api.OpWild {
					inside[0][i].Op, inside[0][i].Str = api.OpName, "Timed::"+strconv.Itoa(wilds)
					wilds++
				}
			}
			sent = leftOfBoths(inside[0])
		}
		kids = append(kids, join(field[0], inside...))
		event = join(api.Node{Op: api.OpDot, Pos: n.Pos}, event, sent)
	}
	then := o.fill("T'wait(T'delay"+strconv.Itoa(o.section)+"(K0), K1)", n.Pos, event, o.translate(parts[len(parts)-1]))
	return o.fill(prefixRow, n.Pos, join(n, append(kids, then)...))
}

func leftOfBoths(tree []api.Node) []api.Node {
	kids := split(tree)
	if tree[0].Op == api.OpBoth {
		return leftOfBoths(kids[0])
	}
	for i := range kids {
		kids[i] = leftOfBoths(kids[i])
	}
	return join(tree[0], kids...)
}

// program translates a program with sections.
func (o *oracle) program(p []api.Node) []api.Node {
	var first api.Pos
	var delays, declarations [][]api.Node
	for _, d := range split(p) {
		if d[0].Op != api.OpTimed {
			declarations = append(declarations, d)
			continue
		}
		parts := split(d)
		if o.section == 0 {
			first = d[0].Pos
		}
		delay := o.preamble(preamble(parts[0][0].Str), d[0].Pos)[6]
		delay[0].Str = "Timed::delay" + strconv.Itoa(o.section)
		delays = append(delays, delay)
		for _, x := range split(parts[1]) {
			declarations = append(declarations, o.translate(x))
		}
		o.section++
	}
	if o.section == 0 {
		return p
	}
	return join(p[0], slices.Concat(o.preamble(preamble(), first), delays, declarations)...)
}

// preamble returns the declarations of a source, with one position.
func (o *oracle) preamble(src string, at api.Pos) [][]api.Node {
	program, _, _ := syntax.Source(src)
	return split(fillIn(withoutPrimes(program), at, nil))
}

// notPermitted returns the position of the first operator that is not permitted in a section.
func notPermitted(p []api.Node) (api.Pos, bool) {
	for _, d := range split(p) {
		if d[0].Op != api.OpTimed {
			continue
		}
		for _, n := range d {
			if n.Op == api.OpLink || n.Op == api.OpInterrupt || n.Op == api.OpSlide {
				return n.Pos, true
			}
		}
	}
	return api.Pos{}, false
}
