package types

import (
	"strconv"
	"strings"

	"cspcheck/api"
)

// writer writes the text of a type.
type writer struct {
	text  strings.Builder
	rest  []api.TypeNode // the nodes that are not written yet
	names []string       // of the datatypes
}

// write writes the type that begins the rest.
func (w *writer) write() {
	n := w.rest[0]
	w.rest = w.rest[1:]
	switch n.Kind {
	case api.TypeVar:
		w.text.WriteString("t" + strconv.Itoa(n.Num))
	case api.TypeInt:
		w.text.WriteString("Int")
	case api.TypeBool:
		w.text.WriteString("Bool")
	case api.TypeEvent:
		w.text.WriteString("Event")
	case api.TypeProc:
		w.text.WriteString("Proc")
	case api.TypeData:
		w.text.WriteString(w.name(n.Num))
	case api.TypeSeq:
		w.list("<", n.Kids, "", ">")
	case api.TypeSet:
		w.list("{", n.Kids, "", "}")
	case api.TypeMap:
		w.list("(|", n.Kids, " => ", "|)")
	case api.TypeTuple:
		w.list("(", n.Kids, ", ", ")")
	case api.TypeFun:
		w.list("(", n.Kids-1, ", ", ") -> ")
		w.write()
	case api.TypeDot:
		w.list("(", n.Kids, ".", ")")
	case api.TypeExt:
		w.list("(", n.Kids, " => ", ")")
	}
}

// list writes as many types with texts around and between them.
func (w *writer) list(open string, size int, between, end string) {
	w.text.WriteString(open)
	for i := range size {
		if i > 0 {
			w.text.WriteString(between)
		}
		w.write()
	}
	w.text.WriteString(end)
}

// name returns the name of a datatype.
func (w *writer) name(number int) string {
	if number < len(w.names) {
		return w.names[number]
	}
	return "D" + strconv.Itoa(number)
}
