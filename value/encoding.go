package value

import "cspcheck/api"

const (
	maxNumber    = 1<<16 - 1        // of a name or a function
	minTuple     = 2                // components
	maxArguments = 4 * api.MaxArity // of a function

	header     = 3 // bytes of a compound value before its parts
	intLength  = 9
	boolLength = 2
	nameLength = 3
)

// none is where no encoding ends.
const none = -1

// Valid reports whether v is the encoding of a value.
func Valid(v api.Value) bool {
	return fits(v, api.MaxValueNest)
}

// fits reports whether v is a value that is nested at most so deep.
func fits(v api.Value, nest int) bool {
	return len(v) <= api.MaxValue && end(v, 0, nest) == len(v)
}

// allValid reports whether all elements of l are valid.
func allValid(l []api.Value) bool {
	for _, v := range l {
		if !Valid(v) {
			return false
		}
	}
	return true
}

// headed returns the list of a value and others after it.
func headed(first api.Value, others []api.Value) []api.Value {
	return append([]api.Value{first}, others...)
}

// compound returns the encoding of a value whose parts are in order and as many as its kind permits, or the empty string if it is not valid.
func compound(kind byte, parts []api.Value) api.Value {
	length := header
	for _, part := range parts {
		length += len(part)
		if length > api.MaxValue || !fits(part, api.MaxValueNest-1) {
			return ""
		}
	}
	// A part has at least two bytes, so that MaxValue keeps the number of parts within the header's two bytes.
	code := append(make([]byte, 0, length), kind, byte(len(parts)>>8), byte(len(parts)))
	for _, part := range parts {
		code = append(code, part...)
	}
	return api.Value(code)
}

// simple reports whether the values of a kind have no parts.
func simple(kind int) bool {
	return kind == api.ValInt || kind == api.ValBool || kind == api.ValName
}

// number returns the number of the integer, boolean or name at the beginning of v.
func number(v api.Value) int64 {
	n := uint64(0)
	for i := 1; i < simpleLength(int(v[0])); i++ {
		n = n<<8 | uint64(v[i])
	}
	return int64(n)
}

// simpleLength returns the length of the values of a kind without parts.
func simpleLength(kind int) int {
	switch kind {
	case api.ValInt:
		return intLength
	case api.ValBool:
		return boolLength
	}
	return nameLength
}

// count returns the number of parts of the compound value at the beginning of v.
func count(v api.Value) int {
	return int(v[1])<<8 | int(v[2])
}

// end returns where the value at a place of v ends, or none if there is no value that is nested at most so deep.
func end(v api.Value, at, nest int) int {
	if at >= len(v) || nest == 0 {
		return none
	}
	kind := int(v[at])
	switch {
	case simple(kind):
		return simpleEnd(v, at, kind)
	case kind >= api.ValTuple && kind <= api.ValProc && len(v)-at >= header:
		return compoundEnd(v, at, nest)
	}
	return none
}

// simpleEnd returns where the value of a kind without parts ends, or none.
func simpleEnd(v api.Value, at, kind int) int {
	stop := at + simpleLength(kind)
	if stop > len(v) || kind == api.ValBool && v[at+1] > 1 {
		return none
	}
	return stop
}

// compoundEnd returns where the compound value whose header is at a place of v ends, or none.
func compoundEnd(v api.Value, at, nest int) int {
	kind, parts := int(v[at]), count(v[at:])
	if !countPermitted(kind, parts) {
		return none
	}
	at += header
	// The empty value stands for a part that has none before it to be compared with.
	last := api.Value("")
	for i := range parts {
		stop := end(v, at, nest-1)
		if stop == none {
			return none
		}
		part := v[at:stop]
		at = stop
		if i == 0 && !headPermitted(kind, part) {
			return none
		}
		if kind == api.ValSet || kind == api.ValMap && i%2 == 0 {
			if last != "" && compareValid(last, part) >= 0 {
				return none
			}
			last = part
		}
	}
	return at
}

// countPermitted reports whether a value of a kind may have as many parts.
func countPermitted(kind, parts int) bool {
	switch kind {
	case api.ValTuple:
		return parts >= minTuple && parts <= api.MaxArity
	case api.ValMap:
		return parts%2 == 0
	case api.ValDot:
		return parts >= 1 && parts <= 1+api.MaxArity
	case api.ValFun:
		return parts >= 1 && parts <= 1+maxArguments
	case api.ValProc:
		return parts >= 1
	}
	return true
}

// headPermitted reports whether a value of a kind may have this first part.
func headPermitted(kind int, part api.Value) bool {
	switch kind {
	case api.ValDot:
		return part[0] == api.ValName
	case api.ValFun:
		return part[0] == api.ValInt && number(part) >= 0 && number(part) <= maxNumber
	case api.ValProc:
		return part[0] == api.ValInt && number(part) >= api.ProcStop && number(part) <= api.ProcHole
	}
	return true
}
