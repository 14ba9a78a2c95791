package dataspace

import (
	"slices"

	"cspcheck/api"
	"cspcheck/value"
)

// completed returns the complete values of dotted values, ErrUnbounded if one of these is endless, or ErrOverflow if there are more than most values, they have more than so many bytes in all, or one of them is not valid.
func completed(dots []dot, most, bytes int) ([]api.Value, api.Errno) {
	if slices.ContainsFunc(dots, dot.endless) {
		return nil, api.ErrUnbounded
	}
	var all []api.Value
	length := 0
	for _, d := range dots {
		missing, ok := rows(d.missing, most)
		if !ok {
			return nil, api.ErrOverflow
		}
		for _, fields := range missing {
			v := d.with(fields)
			all = append(all, v)
			length += len(v)
			if v == "" || len(all) > most || length > bytes {
				return nil, api.ErrOverflow
			}
		}
	}
	return all, api.OK
}

// completions returns the set of the complete values of dotted values of which none extends another.
func completions(dots []dot) (api.Value, api.Errno) {
	all, err := completed(dots, api.MaxSet, api.MaxValue)
	if err != api.OK {
		return "", err
	}
	set := value.Set(all)
	if set == "" {
		return "", api.ErrOverflow
	}
	return set, api.OK
}
