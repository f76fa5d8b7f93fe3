package pulse

import "shoebox/api"

func foldedTo(h []number, period int) []number {
	l := make([]number, period)
	for k, n := range h {
		l[k%period] = l[k%period].plus(n)
	}
	return l
}

// weighed is, for each number i of a list, the sum of all its numbers k, each one times a weight.
func weighed(l []number, weight func(i, k int) int) []number {
	sums := make([]number, len(l))
	for i := range sums {
		for k, n := range l {
			sums[i] = sums[i].plus(n.stretched(weight(i, k)))
		}
	}
	return sums
}

// signAt is the sign at any time.
func (g generator) signAt(start int) func(t int) int {
	signs := g.signs(start)
	return func(t int) int { return signs[modulo(t, len(signs))] }
}

// divided is numbers divided by a whole one; false if some part is not whole then.
func divided(l []number, by int) ([]number, bool) {
	var quotients []number
	for _, n := range l {
		if n.re%by != 0 || n.im%by != 0 {
			return nil, false
		}
		quotients = append(quotients, number{n.re / by, n.im / by})
	}
	return quotients, true
}

// Folded returns a response folded to a period.
func Folded(h []complex64, period int) ([]complex64, api.Errno) {
	if e := firstError(listed(h), within(period, 1, api.MaxPulseBits)); e != api.OK {
		return nil, e
	}
	return recorded(foldedTo(numbersOf(h), period))
}

// Excited returns what a register excites of a response.
func Excited(h []complex64, r api.PulseRegister, start int) ([]complex64, api.Errno) {
	g := generator{r}
	if e := firstError(listed(h), g.check, g.startsAt(start)); e != api.OK {
		return nil, e
	}
	folded, sign := foldedTo(numbersOf(h), g.fullPeriod()), g.signAt(start)
	if _, e := recorded(folded); e != api.OK {
		return nil, e
	}
	return recorded(weighed(folded, func(t, k int) int { return sign(t - k) }))
}

// Unfolded returns the folded response of a recording, by correlation.
func Unfolded(y []complex64, r api.PulseRegister, start int) ([]complex64, api.Errno) {
	g := generator{r}
	e := firstError(
		listed(y), g.check, g.startsAt(start), g.maximal,
		func() api.Errno { return refuse(len(y) != g.fullPeriod(), api.ErrClash)() },
	)
	if e != api.OK {
		return nil, e
	}
	sign := g.signAt(start)
	// less 1, because the sum of all numbers is taken off
	sums := weighed(numbersOf(y), func(k, t int) int { return sign(t-k) - 1 })
	h, areWhole := divided(sums, g.fullPeriod()+1)
	if !areWhole {
		return nil, api.ErrProof
	}
	return recorded(h)
}
