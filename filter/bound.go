package filter

import "shoebox/api"

// bound is how great the outputs of a section can become, for inputs up to a size.
func bound(s api.FilterSection, most int) (int, api.Errno) {
	left := api.FilterOne - size(s.A[0]) - size(s.A[1])
	if left <= 0 {
		return 0, api.ErrNone
	}
	taken := (size(s.B[0]) + size(s.B[1]) + size(s.B[2])) * most
	return min(floor(taken+api.FilterOne/2, left), api.MaxSample), api.OK
}

func mostError(most int) api.Errno { return within(most, 0, api.MaxSample) }

// BoundOf returns the bound of a section.
func BoundOf(s api.FilterSection, most int) (int, api.Errno) {
	if e := firstError(CheckSection(s), mostError(most)); e != api.OK {
		return 0, e
	}
	return bound(s, most)
}

// CascadeBound returns the bound of a cascade.
func CascadeBound(c []api.FilterSection, most int) (int, api.Errno) {
	if e := firstError(cascadeError(c), mostError(most)); e != api.OK {
		return 0, e
	}
	for _, s := range c {
		var e api.Errno
		if most, e = bound(s, most); e != api.OK {
			return 0, e
		}
	}
	return most, api.OK
}
