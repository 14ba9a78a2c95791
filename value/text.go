package value

import (
	"strconv"

	"cspcheck/api"
)

// Text returns the text of a value, and the empty string if it is not valid.
func Text(v api.Value, names []string) string {
	if !Valid(v) {
		return ""
	}
	w := writer{rest: v, names: names}
	w.value()
	return string(w.text)
}

// writer writes the values at the beginning of rest, one after another.
type writer struct {
	rest  api.Value
	names []string
	text  []byte
}

func (w *writer) value() {
	kind := int(w.rest[0])
	if simple(kind) {
		w.simple(kind, number(w.rest))
		w.rest = w.rest[simpleLength(kind):]
		return
	}
	parts := count(w.rest)
	w.rest = w.rest[header:]
	open, closed := brackets(kind)
	w.text = append(w.text, open...)
	for i := range parts {
		if i > 0 {
			w.text = append(w.text, separator(kind, i)...)
		}
		w.value()
	}
	w.text = append(w.text, closed...)
}

// simple writes a value without parts.
func (w *writer) simple(kind int, n int64) {
	switch {
	case kind == api.ValBool:
		w.text = strconv.AppendBool(w.text, n == 1)
	case kind == api.ValInt:
		w.text = strconv.AppendInt(w.text, n, 10)
	case n < int64(len(w.names)):
		w.text = append(w.text, w.names[n]...)
	default:
		w.text = append(w.text, '?')
		w.text = strconv.AppendInt(w.text, n, 10)
	}
}

// brackets returns the texts before and after the parts of a value of a kind.
func brackets(kind int) (open, closed string) {
	switch kind {
	case api.ValTuple:
		return "(", ")"
	case api.ValSeq:
		return "<", ">"
	case api.ValSet:
		return "{", "}"
	case api.ValMap:
		return "(|", "|)"
	case api.ValFun:
		return "fun(", ")"
	case api.ValProc:
		return "proc(", ")"
	}
	return "", ""
}

// separator returns the text before part i of a value of a kind.
func separator(kind, i int) string {
	switch {
	case kind == api.ValDot:
		return "."
	case kind == api.ValMap && i%2 == 1:
		return " => "
	}
	return ", "
}
