package pulse

import "shoebox/api"

const greatestSlow = 1000

// swept is all numbers of a product.
func swept(h, x []number) []number {
	l := make([]number, len(h)+len(x)-1)
	for k, a := range h {
		for t, b := range x {
			l[k+t] = l[k+t].plus(a.times(b))
		}
	}
	return l
}

// turning is the condition that a list begins with a power of i; it has to have numbers.
func turning(x []complex64) condition {
	return func() api.Errno {
		first := numberOf(x[0])
		return refuse(first.times(first.conjugate()) != number{re: 1}, api.ErrKind)()
	}
}

// Chirp returns a chirp.
func Chirp(count, slow int) ([]complex64, api.Errno) {
	if e := firstError(within(count, 1, api.MaxPulseBits), within(slow, 1, greatestSlow)); e != api.OK {
		return nil, e
	}
	powers := [...]complex64{1, 1i, -1, -1i}
	var l []complex64
	turns := 0
	for t := range count {
		turns += t / slow
		l = append(l, powers[turns%len(powers)])
	}
	return l, api.OK
}

// Swept returns the sweep's recording of a response.
func Swept(h, x []complex64) ([]complex64, api.Errno) {
	e := firstError(listed(h), listed(x), refuse(len(h)+len(x)-1 > api.MaxPulseBits, api.ErrLarge))
	if e != api.OK {
		return nil, e
	}
	return recorded(swept(numbersOf(h), numbersOf(x)))
}

// Divided returns the response whose sweep's recording begins with a recording.
func Divided(y, x []complex64) ([]complex64, api.Errno) {
	if e := firstError(listed(y), listed(x), turning(x)); e != api.OK {
		return nil, e
	}
	sweep := numbersOf(x)
	back := sweep[0].conjugate()
	var h []number
	for t, n := range numbersOf(y) {
		for k := max(0, t+1-len(sweep)); k < t; k++ {
			n = n.less(h[k].times(sweep[t-k]))
		}
		// behind a number that is too large, sums may be too great for an int: but then the list is refused for that number
		h = append(h, n.times(back))
	}
	return recorded(h)
}
