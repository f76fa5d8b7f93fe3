package show

import "shoebox/api"

// CheckHistory returns the first error of a history, and the number of the version that has it.
func CheckHistory(h []api.ShowVersion) (int, api.Errno) {
	if len(h) > api.MaxShowVersions {
		return 0, api.ErrLarge
	}
	return firstWrong(len(h), func(i int) api.Errno {
		return firstError(parented(h[i].Parents, i), projected(h[i].Project))
	})
}

// parented is the condition that the version with a number has right parents.
func parented(parents []int, number int) condition {
	least, most := 1, 2
	if number == 0 {
		least, most = 0, 0
	}
	return func() api.Errno {
		return firstError(
			refuse(!isWithin(len(parents), least, most), api.ErrShape),
			unnumbered(firstWrong(len(parents), func(i int) api.Errno {
				return firstError(
					refuse(!isWithin(parents[i], 0, number-1), api.ErrMissing),
					refuse(i > 0 && parents[i] <= parents[i-1], api.ErrOrder),
				)
			})),
		)
	}
}

// ancestors tells of each version whether it is an ancestor of one.
func ancestors(h []api.ShowVersion, of int) []bool {
	isOne := make([]bool, len(h))
	isOne[of] = true
	for i := of; i >= 0; i-- {
		if !isOne[i] {
			continue
		}
		for _, parent := range h[i].Parents {
			isOne[parent] = true
		}
	}
	return isOne
}

// BaseOf returns the number of the base of two versions.
func BaseOf(h []api.ShowVersion, a, b int) (int, api.Errno) {
	isThere := func(n int) bool { return isWithin(n, 0, len(h)-1) }
	e := firstError(unnumbered(CheckHistory(h)), refuse(!isThere(a) || !isThere(b), api.ErrMissing))
	if e != api.OK {
		return 0, e
	}
	ofA, ofB := ancestors(h, a), ancestors(h, b)
	for i := min(a, b); i >= 0; i-- {
		if ofA[i] && ofB[i] {
			return i, api.OK
		}
	}
	return 0, api.ErrNone
}

// MergeIn returns the version that two versions are merged to, and tells the conflicts.
func MergeIn(h []api.ShowVersion, a, b int) (api.ShowVersion, []string, api.Errno) {
	base, e := BaseOf(h, a, b)
	switch {
	case e != api.OK:
		return api.ShowVersion{}, nil, e
	case a == b:
		return api.ShowVersion{}, nil, api.ErrDouble
	}
	p, conflicts, e := Merged(h[base].Project, h[a].Project, h[b].Project)
	if e != api.OK {
		return api.ShowVersion{}, nil, e
	}
	return api.ShowVersion{Parents: []int{min(a, b), max(a, b)}, Project: p}, conflicts, api.OK
}
