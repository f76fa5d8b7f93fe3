package filter

import "shoebox/api"

// coefficients is those of a section: three B, two A.
type coefficients [5]int

func coefficientsOf(s api.FilterSection) coefficients {
	return coefficients{s.B[0], s.B[1], s.B[2], s.A[0], s.A[1]}
}

func (c coefficients) section() api.FilterSection {
	return api.FilterSection{B: [3]int{c[0], c[1], c[2]}, A: [2]int{c[3], c[4]}}
}

// cascadeError is the error of a cascade without its number.
func cascadeError(c []api.FilterSection) api.Errno {
	_, e := CheckCascade(c)
	return e
}

// isStable tells whether a section with these A is stable.
func isStable(a [2]int) bool {
	return size(a[1]) < api.FilterOne && size(a[0]) < api.FilterOne+a[1]
}

// CheckSection returns the error of a section.
func CheckSection(s api.FilterSection) api.Errno {
	c := coefficientsOf(s)
	return allSmall(c[:], api.MaxFilterPart)
}

// CheckCascade returns the first error of a cascade, and the number of the section that has it.
func CheckCascade(c []api.FilterSection) (int, api.Errno) {
	if len(c) > api.MaxSections {
		return 0, api.ErrLarge
	}
	for i, s := range c {
		if e := CheckSection(s); e != api.OK {
			return i, e
		}
	}
	return 0, api.OK
}

// IsStable tells whether a section is stable.
func IsStable(s api.FilterSection) (bool, api.Errno) {
	if e := CheckSection(s); e != api.OK {
		return false, e
	}
	return isStable(s.A), api.OK
}

// FirstUnstable returns the number of the first section that is not stable.
func FirstUnstable(c []api.FilterSection) (int, api.Errno) {
	if e := cascadeError(c); e != api.OK {
		return 0, e
	}
	for i, s := range c {
		if !isStable(s.A) {
			return i, api.OK
		}
	}
	return 0, api.ErrNone
}

// Stabilised returns the stable section with the same B that is nearest to a section, and how far it is from it.
func Stabilised(s api.FilterSection, reach int) (api.FilterSection, int, api.Errno) {
	if e := firstError(CheckSection(s), within(reach, 0, api.MaxFilterReach)); e != api.OK {
		return api.FilterSection{}, 0, e
	}
	tooFar := 2*reach + 1
	best, least := s, tooFar
	for first := -reach; first <= reach; first++ {
		for second := -reach; second <= reach; second++ {
			// coefficients that are too great need no look of their own, because no section with them is stable
			a := [2]int{s.A[0] + first, s.A[1] + second}
			if apart := size(first) + size(second); apart < least && isStable(a) {
				best.A, least = a, apart
			}
		}
	}
	if least == tooFar {
		return api.FilterSection{}, 0, api.ErrNone
	}
	return best, least, api.OK
}
