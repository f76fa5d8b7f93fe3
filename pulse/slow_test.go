package pulse_test

import (
	"math/big"

	"shoebox/api"
)

// Results are held against slow ones that follow the chapter's definitions directly; sums of products are in whole numbers without a bound.

// slowBits is the bits of a start, each one from the bits before it.
func slowBits(r api.PulseRegister, start, count int) []int {
	var l []int
	for t := range count {
		bit := start >> t & 1
		if t >= r.Length {
			bit = 0
			for _, tap := range r.Taps {
				bit += l[t-tap]
			}
		}
		l = append(l, bit%2)
	}
	return l
}

func slowState(r api.PulseRegister, start, steps int) int {
	state := 0
	for k, bit := range slowBits(r, start, steps+r.Length)[steps:] {
		state += bit << k
	}
	return state
}

// slowPeriod is 0 if there is none up to the number of all states.
func slowPeriod(r api.PulseRegister, start int) int {
	bits := slowBits(r, start, full(r)+1+r.Length)
	for t := 1; t <= full(r)+1; t++ {
		state := 0
		for k := range r.Length {
			state += bits[t+k] << k
		}
		if state == start {
			return t
		}
	}
	return 0
}

func slowSigns(r api.PulseRegister, start int) []int {
	var l []int
	for _, bit := range slowBits(r, start, full(r)) {
		l = append(l, []int{1, -1}[bit])
	}
	return l
}

// pair is a complex number with whole parts without a bound.
type pair [2]*big.Int

func pairOf(re, im int) pair { return pair{big.NewInt(int64(re)), big.NewInt(int64(im))} }

func pairOfNumber(c complex64) pair { return pairOf(int(real(c)), int(imag(c))) }

func product(a, b *big.Int) *big.Int { return new(big.Int).Mul(a, b) }
func sum(a, b *big.Int) *big.Int     { return new(big.Int).Add(a, b) }
func minus(a, b *big.Int) *big.Int   { return new(big.Int).Sub(a, b) }

func (a pair) plus(b pair) pair { return pair{sum(a[0], b[0]), sum(a[1], b[1])} }
func (a pair) times(b pair) pair {
	return pair{minus(product(a[0], b[0]), product(a[1], b[1])), sum(product(a[0], b[1]), product(a[1], b[0]))}
}

// recordingOf is numbers as a recording; ErrLarge if one is greater than it can hold.
func recordingOf(l []pair) ([]complex64, api.Errno) {
	var y []complex64
	for _, n := range l {
		for _, part := range n {
			if part.CmpAbs(big.NewInt(most)) > 0 {
				return nil, api.ErrLarge
			}
		}
		y = append(y, both(int(n[0].Int64()), int(n[1].Int64())))
	}
	return y, api.OK
}

func slowFold(h []complex64, period int) []pair {
	var l []pair
	for k := range period {
		n := pairOf(0, 0)
		for i, c := range h {
			if i%period == k {
				n = n.plus(pairOfNumber(c))
			}
		}
		l = append(l, n)
	}
	return l
}

func slowFolded(h []complex64, period int) ([]complex64, api.Errno) {
	return recordingOf(slowFold(h, period))
}

func slowExcited(h []complex64, r api.PulseRegister, start int) ([]complex64, api.Errno) {
	folded, signs := slowFold(h, full(r)), slowSigns(r, start)
	if _, e := recordingOf(folded); e != api.OK {
		return nil, e
	}
	var l []pair
	for t := range folded {
		n := pairOf(0, 0)
		for k, c := range folded {
			n = n.plus(c.times(pairOf(signs[(t-k+full(r))%full(r)], 0)))
		}
		l = append(l, n)
	}
	return recordingOf(l)
}

func slowSwept(h, x []complex64) ([]complex64, api.Errno) {
	var l []pair
	for t := range len(h) + len(x) - 1 {
		n := pairOf(0, 0)
		for k := range h {
			if t-k >= 0 && t-k < len(x) {
				n = n.plus(pairOfNumber(h[k]).times(pairOfNumber(x[t-k])))
			}
		}
		l = append(l, n)
	}
	return recordingOf(l)
}

func slowIsPrime(n int) bool { return big.NewInt(int64(n)).ProbablyPrime(20) }

// slowPower is a power modulo a prime, also with a negative exponent.
func slowPower(n, exponent, prime int) int {
	power := new(big.Int).Exp(big.NewInt(int64(n)), big.NewInt(int64(exponent)), big.NewInt(int64(prime)))
	return int(power.Int64())
}

// slowSum is, for each number k, the sum of l(t) with the root to a power, modulo the prime.
func slowSum(l []int, f api.PulseField, exponent func(t, k int) int) []int {
	var sums []int
	for k := range f.Period {
		n := big.NewInt(0)
		for t := range l {
			power := big.NewInt(int64(slowPower(f.Root, exponent(t, k), f.Prime)))
			n = sum(n, product(big.NewInt(int64(l[t])), power))
		}
		sums = append(sums, int(n.Mod(n, big.NewInt(int64(f.Prime))).Int64()))
	}
	return sums
}

func slowTransformed(l []int, f api.PulseField) []int {
	return slowSum(l, f, func(t, k int) int { return t * k })
}

// slowBack needs no inverse: the sum is what the number gives with the period.
func slowBack(l []int, f api.PulseField) []int {
	share := new(big.Int).ModInverse(big.NewInt(int64(f.Period)), big.NewInt(int64(f.Prime)))
	sums := slowSum(l, f, func(t, k int) int { return -t * k })
	for i, n := range sums {
		sums[i] = int(share.Int64()) * n % f.Prime
	}
	return sums
}

// slowCheckField is the error of a field, for small primes.
func slowCheckField(f api.PulseField) api.Errno {
	switch {
	case f.Prime < 2 || f.Period < 1 || f.Period > 1024 || f.Root < 1 || f.Root >= f.Prime:
		return api.ErrRange
	case !slowIsPrime(f.Prime):
		return api.ErrKind
	case (f.Prime-1)%f.Period != 0:
		return api.ErrClash
	case slowOrder(f.Root, f.Prime) != f.Period:
		return api.ErrProof
	}
	return api.OK
}

// slowOrder is the least positive power of a number that is 1.
func slowOrder(n, prime int) int {
	for exponent := 1; ; exponent++ {
		if slowPower(n, exponent, prime) == 1 {
			return exponent
		}
	}
}

// slowFieldOf is the field of a period, for primes that are not too large.
func slowFieldOf(period, least int) api.PulseField {
	for prime := least; ; prime++ {
		if !slowIsPrime(prime) || (prime-1)%period != 0 {
			continue
		}
		for g := 1; ; g++ {
			if root := slowPower(g, (prime-1)/period, prime); slowOrder(root, prime) == period {
				return field(prime, root, period)
			}
		}
	}
}
