package filter

import "shoebox/api"

// divisor is the greatest common divisor of two numbers, of which the second one is above 0.
func divisor(a, b int) int {
	for b != 0 {
		a, b = b, a%b
	}
	return size(a)
}

// lowest is a quotient in lowest terms; by is not 0.
func lowest(n, by int) api.Frac {
	if by < 0 {
		n, by = -n, -by
	}
	d := divisor(n, by)
	return api.Frac{Num: n / d, Den: by / d}
}

func formError(f api.Frac) api.Errno {
	return refuse(f.Den <= 0 || divisor(f.Num, f.Den) != 1, api.ErrForm)
}

// quantised is the coefficient that is nearest to a fraction.
func quantised(f api.Frac) (int, api.Errno) {
	if e := firstError(formError(f), allSmall([]int{f.Num, f.Den}, api.MaxPart)); e != api.OK {
		return 0, e
	}
	n := nearest(f.Num*api.FilterOne, f.Den)
	return n, refuse(!isSmall(n, api.MaxFilterPart), api.ErrLarge)
}

// Reflections returns the reflections of a section.
func Reflections(s api.FilterSection) ([2]api.Frac, api.Errno) {
	sum := api.FilterOne + s.A[1]
	if e := firstError(CheckSection(s), refuse(sum == 0, api.ErrZero)); e != api.OK {
		return [2]api.Frac{}, e
	}
	return [2]api.Frac{lowest(s.A[1], api.FilterOne), lowest(s.A[0], sum)}, api.OK
}

// Quantised returns the section whose coefficients are nearest to fractions.
func Quantised(l [5]api.Frac) (api.FilterSection, api.Errno) {
	var c coefficients
	for i, f := range l {
		n, e := quantised(f)
		if e != api.OK {
			return api.FilterSection{}, e
		}
		c[i] = n
	}
	return c.section(), api.OK
}
