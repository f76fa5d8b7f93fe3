package filter

import "shoebox/api"

func polynomialError(p []int) api.Errno {
	// the order is one less than there are numbers
	if e := refuse(len(p) < 2 || len(p) > api.MaxOrder+1, api.ErrShape); e != api.OK {
		return e
	}
	return firstError(
		allSmall(p, api.MaxPolynomial),
		refuse(p[0] <= 0, api.ErrZero),
	)
}

// stepDown is the step down of a polynomial. Numbers that are right at first stay ints, even behind the three steps that there can be.
func stepDown(p []int) []int {
	n := len(p) - 1
	var q []int
	for k := range n {
		q = append(q, p[0]*p[k]-p[n]*p[n-k])
	}
	return q
}

// StepDown returns the step down of a polynomial.
func StepDown(p []int) ([]int, api.Errno) {
	if e := firstError(polynomialError(p), refuse(len(p) == 2, api.ErrShape)); e != api.OK {
		return nil, e
	}
	return stepDown(p), api.OK
}

// Schur tells whether a polynomial is stable, and how many steps down were made to find this out.
func Schur(p []int) (bool, int, api.Errno) {
	if e := polynomialError(p); e != api.OK {
		return false, 0, e
	}
	steps := 0
	// the first number stays above 0, because a step is made only if it is above the last one in size
	for p[0] > size(p[len(p)-1]) {
		if len(p) == 2 {
			return true, steps, api.OK
		}
		p = stepDown(p)
		steps++
	}
	return false, steps, api.OK
}
