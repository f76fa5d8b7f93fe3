package pulse

import "shoebox/api"

// The limits of lists of primes.
const (
	mostPrimes    = 8
	leastPrime    = 2
	greatestPrime = 1<<api.MaxPulseLength - 1
)

// isPrime tells whether a number above 1 is a prime.
func isPrime(n int) bool {
	for by := leastPrime; by*by <= n; by++ {
		if n%by == 0 {
			return false
		}
	}
	return true
}

// primesOf is all primes that divide a number above 0.
func primesOf(n int) []int {
	var l []int
	for p := leastPrime; n > 1; p++ {
		if n%p == 0 {
			l = append(l, p)
			n = without(n, p)
		}
	}
	return l
}

// without is a number divided by another one as often as it can be.
func without(n, by int) int {
	for n%by == 0 {
		n /= by
	}
	return n
}

func (g generator) isMaximal() bool { return g.period(1) == g.fullPeriod() }

// maximal is the condition that a right register is maximal.
func (g generator) maximal() api.Errno { return refuse(!g.isMaximal(), api.ErrState)() }

// isProvedBy tells whether numbers are the primes of a maximal register. It does not look for the period: this divides N, and if it were less, it would divide N divided by one of the primes too.
func (g generator) isProvedBy(primes []int) bool {
	all := g.fullPeriod()
	rest := all
	for _, p := range primes {
		if !isPrime(p) || all%p != 0 || g.stateAt(1, all/p) == 1 {
			return false
		}
		rest = without(rest, p)
	}
	return rest == 1 && g.stateAt(1, all) == 1
}

// IsMaximal returns whether a register is maximal.
func IsMaximal(r api.PulseRegister) (bool, api.Errno) {
	g := generator{r}
	if e := g.check(); e != api.OK {
		return false, e
	}
	return g.isMaximal(), api.OK
}

// CheckMaximal returns the first error of the primes of a maximal register.
func CheckMaximal(r api.PulseRegister, primes []int) api.Errno {
	g := generator{r}
	return firstError(
		g.check,
		refuse(len(primes) > mostPrimes, api.ErrLarge),
		ascending(primes, leastPrime, greatestPrime),
		func() api.Errno { return refuse(!g.isProvedBy(primes), api.ErrProof)() },
	)
}

// withTaps is the register whose taps below its length are the digits of a number: the tap 1 the highest one, so that smaller numbers have lists of taps that come later.
func withTaps(length, digits int) generator {
	r := api.PulseRegister{Length: length}
	for tap := 1; tap < length; tap++ {
		if digits>>(length-1-tap)&1 == 1 {
			r.Taps = append(r.Taps, tap)
		}
	}
	r.Taps = append(r.Taps, length)
	return generator{r}
}

// FirstMaximal returns the first maximal register of a length, and its primes.
func FirstMaximal(length int) (api.PulseRegister, []int, api.Errno) {
	if e := within(length, leastLength, api.MaxPulseLength)(); e != api.OK {
		return api.PulseRegister{}, nil, e
	}
	// there is one of each length, so that the digits do not end first
	digits := 1<<(length-1) - 1
	for !withTaps(length, digits).isMaximal() {
		digits--
	}
	g := withTaps(length, digits)
	return g.PulseRegister, primesOf(g.fullPeriod()), api.OK
}
