package finset

import (
	"cspcheck/api"
	"cspcheck/value"
)

func isMap(v api.Value) bool {
	return value.Kind(v) == api.ValMap
}

// pairs returns the keys of a map and their values.
func pairs(m api.Value) (keys, values []api.Value) {
	parts := value.Parts(m)
	for i := 0; i+1 < len(parts); i += 2 {
		keys, values = append(keys, parts[i]), append(values, parts[i+1])
	}
	return keys, values
}

// paired returns the map of different keys and their values, or ErrOverflow if there is no such map.
func paired(keys, values []api.Value) (api.Value, api.Errno) {
	if len(keys) > api.MaxSet {
		return "", api.ErrOverflow
	}
	m := value.Map(keys, values)
	if m == "" {
		return "", api.ErrOverflow
	}
	return m, api.OK
}
