package pulse

import "shoebox/api"

// quotient is what gives a list, number by number, with another one in which no number is 0.
func (f field) quotient(l, by []int) []int {
	var quotients []int
	for k, n := range l {
		quotients = append(quotients, f.product(n, f.inverse(by[k])))
	}
	return quotients
}

// signed is a number around 0: what is greater than half of the prime stands for a negative one.
func (f field) signed(n int) int {
	if n > f.Prime/2 {
		return n - f.Prime
	}
	return n
}

// unfolded is one part of a response, from that part of a recording and the transform of the signs.
func (f field) unfolded(part, signs []int) []int {
	l := f.back(f.quotient(f.transform(part), signs))
	for k, n := range l {
		l[k] = f.signed(n)
	}
	return l
}

// parts is the real and the imaginary parts of numbers, apart.
func parts(l []number) (re, im []int) {
	for _, n := range l {
		re = append(re, n.re)
		im = append(im, n.im)
	}
	return re, im
}

// UnfoldedIn returns the folded response of a recording, by transforms.
func UnfoldedIn(y []complex64, x api.PulseStart, f api.PulseField) ([]complex64, api.Errno) {
	g, in := generator{x.Register}, field{f}
	e := firstError(
		listed(y), g.check, g.startsAt(x.Start), in.check, g.maximal,
		func() api.Errno {
			return refuse(len(y) != g.fullPeriod() || f.Period != g.fullPeriod(), api.ErrClash)()
		},
	)
	if e != api.OK {
		return nil, e
	}
	signs := in.transform(g.signs(x.Start))
	re, im := parts(numbersOf(y))
	left, right := in.unfolded(re, signs), in.unfolded(im, signs)
	var h []number
	for k := range left {
		h = append(h, number{left[k], right[k]})
	}
	return recorded(h)
}
