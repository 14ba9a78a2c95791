package value_test

import (
	"cmp"
	"slices"
	"strconv"
	"strings"

	"cspcheck/api"
)

// tree is a value as the second implementation sees it: a number or parts.
type tree struct {
	kind  int
	num   int64
	parts []tree
}

// reader reads encodings without regard to the rules of their parts.
type reader struct {
	rest   string
	failed bool
}

// bytes returns the number in the next n bytes.
func (r *reader) bytes(n int) int64 {
	number := int64(0)
	for range n {
		if r.rest == "" {
			r.failed = true
			return 0
		}
		number = number*256 + int64(r.rest[0])
		r.rest = r.rest[1:]
	}
	return number
}

func (r *reader) tree() tree {
	t := tree{kind: int(r.bytes(1))}
	switch t.kind {
	case api.ValInt:
		t.num = r.bytes(8)
	case api.ValBool:
		t.num = r.bytes(1)
	case api.ValName:
		t.num = r.bytes(2)
	default:
		for range r.bytes(2) {
			if r.failed {
				break
			}
			t.parts = append(t.parts, r.tree())
		}
	}
	return t
}

// decode returns the tree of an encoding, and whether it is a valid value.
func decode(v api.Value) (tree, bool) {
	r := reader{rest: string(v)}
	t := r.tree()
	return t, !r.failed && r.rest == "" && len(v) <= api.MaxValue && depth(t) <= api.MaxValueNest && lawful(t)
}

func depth(t tree) int {
	deepest := 0
	for _, part := range t.parts {
		deepest = max(deepest, depth(part))
	}
	return 1 + deepest
}

// lawful reports whether a tree follows the table of parts everywhere.
func lawful(t tree) bool {
	for _, part := range t.parts {
		if !lawful(part) {
			return false
		}
	}
	n := len(t.parts)
	headed := func(kind int, least, most int64) bool {
		return n > 0 && t.parts[0].kind == kind && least <= t.parts[0].num && t.parts[0].num <= most
	}
	switch t.kind {
	case api.ValInt, api.ValName, api.ValSeq:
		return true
	case api.ValBool:
		return t.num <= 1
	case api.ValTuple:
		return 2 <= n && n <= 8
	case api.ValSet:
		return climbing(t.parts)
	case api.ValMap:
		return n%2 == 0 && climbing(evens(t.parts))
	case api.ValDot:
		return n <= 9 && headed(api.ValName, 0, 65535)
	case api.ValFun:
		return n <= 33 && headed(api.ValInt, 0, 65535)
	case api.ValProc:
		return headed(api.ValInt, 1, 21)
	}
	return false
}

func climbing(l []tree) bool {
	for i := range l {
		for k := range i {
			if compareTrees(l[k], l[i]) >= 0 {
				return false
			}
		}
	}
	return true
}

func evens(l []tree) []tree {
	var half []tree
	for i := 0; i < len(l); i += 2 {
		half = append(half, l[i])
	}
	return half
}

func compareTrees(a, b tree) int {
	if a.kind != b.kind {
		return cmp.Compare(a.kind, b.kind)
	}
	if a.num != b.num {
		return cmp.Compare(a.num, b.num)
	}
	return slices.CompareFunc(a.parts, b.parts, compareTrees)
}

// compareValues compares two encodings of any kind.
func compareValues(a, b api.Value) int {
	s, validS := decode(a)
	t, validT := decode(b)
	if validS && validT {
		return compareTrees(s, t)
	}
	if validS != validT {
		if validT {
			return -1
		}
		return 1
	}
	return strings.Compare(string(a), string(b))
}

// encode returns the encoding of a tree, which need not be valid.
func encode(t tree) api.Value {
	number := func(n int64, bytes int) string {
		text := ""
		for range bytes {
			text = string([]byte{byte(n)}) + text
			n >>= 8
		}
		return text
	}
	switch t.kind {
	case api.ValInt:
		return api.Value("\x01" + number(t.num, 8))
	case api.ValBool:
		return api.Value("\x02" + number(t.num, 1))
	case api.ValName:
		return api.Value("\x0a" + number(t.num, 2))
	}
	code := api.Value(number(int64(t.kind), 1) + number(int64(len(t.parts)), 2))
	for _, part := range t.parts {
		code += encode(part)
	}
	return code
}

// textOf returns the text of a valid tree.
func textOf(t tree, names []string) string {
	var parts []string
	for _, part := range t.parts {
		parts = append(parts, textOf(part, names))
	}
	joined := strings.Join(parts, ", ")
	switch t.kind {
	case api.ValBool:
		return []string{"false", "true"}[t.num]
	case api.ValTuple:
		return "(" + joined + ")"
	case api.ValSeq:
		return "<" + joined + ">"
	case api.ValSet:
		return "{" + joined + "}"
	case api.ValMap:
		var pairs []string
		for i := 0; i < len(parts); i += 2 {
			pairs = append(pairs, parts[i]+" => "+parts[i+1])
		}
		return "(|" + strings.Join(pairs, ", ") + "|)"
	case api.ValDot:
		return strings.Join(parts, ".")
	case api.ValFun:
		return "fun(" + joined + ")"
	case api.ValProc:
		return "proc(" + joined + ")"
	}
	digits := strconv.FormatInt(t.num, 10)
	if t.kind == api.ValName {
		if int(t.num) < len(names) {
			return names[t.num]
		}
		return "?" + digits
	}
	return digits
}
