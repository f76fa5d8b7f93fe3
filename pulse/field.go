package pulse

import "shoebox/api"

// field is the whole numbers from 0 to a prime less 1, with their products modulo this prime.
type field struct{ api.PulseField }

func (f field) check() api.Errno { return CheckField(f.PulseField) }

func (f field) product(a, b int) int { return a * b % f.Prime }

func (f field) power(n, exponent int) int {
	power := 1
	for ; exponent > 0; exponent /= 2 {
		if exponent%2 == 1 {
			power = f.product(power, n)
		}
		n = f.product(n, n)
	}
	return power
}

// inverse of a number that is not 0 is what gives 1 with it: its powers come back to 1 with the prime less 1.
func (f field) inverse(n int) int { return f.power(n, f.Prime-2) }

// isRooted tells whether the least positive power of the root that is 1 is the period.
func (f field) isRooted() bool {
	power, exponent := f.Root, 1
	for power != 1 && exponent < f.Period {
		power = f.product(power, f.Root)
		exponent++
	}
	return power == 1 && exponent == f.Period
}

// powers is the powers of the root, as many as the period.
func (f field) powers() []int {
	l := []int{1}
	for len(l) < f.Period {
		l = append(l, f.product(l[len(l)-1], f.Root))
	}
	return l
}

// transform is the transform of as many numbers as the period.
func (f field) transform(l []int) []int {
	powers := f.powers()
	sums := make([]int, f.Period)
	for k := range sums {
		for t, n := range l {
			sums[k] += f.product(modulo(n, f.Prime), powers[t*k%f.Period])
		}
		sums[k] %= f.Prime
	}
	return sums
}

// back is the transform back of as many numbers as the period.
func (f field) back(l []int) []int {
	turned := f
	turned.Root = f.inverse(f.Root)
	share := f.inverse(f.Period)
	sums := turned.transform(l)
	for t, n := range sums {
		sums[t] = f.product(n, share)
	}
	return sums
}

// transformed is the condition that numbers can be transformed.
func (f field) transformed(l []int) condition {
	return func() api.Errno {
		return firstError(
			refuse(len(l) > api.MaxPulseBits, api.ErrLarge),
			allSmall(l, api.MaxPulsePrime),
			f.check,
			refuse(len(l) != f.Period, api.ErrClash),
		)
	}
}

// CheckField returns the first error of a field.
func CheckField(f api.PulseField) api.Errno {
	return firstError(
		within(f.Prime, leastPrime, api.MaxPulsePrime),
		within(f.Period, 1, api.MaxPulseBits),
		within(f.Root, 1, f.Prime-1),
		func() api.Errno { return refuse(!isPrime(f.Prime), api.ErrKind)() },
		func() api.Errno { return refuse((f.Prime-1)%f.Period != 0, api.ErrClash)() },
		func() api.Errno { return refuse(!field{f}.isRooted(), api.ErrProof)() },
	)
}

// rooted is the field of a period and a prime, with the root of the least number that gives one.
func rooted(period, prime int) field {
	for g := 1; ; g++ {
		f := field{api.PulseField{Prime: prime, Period: period}}
		f.Root = f.power(g, (prime-1)/period)
		if f.isRooted() {
			return f
		}
	}
}

// FieldOf returns the field of a period with the least prime from a number on.
func FieldOf(period, least int) (api.PulseField, api.Errno) {
	e := firstError(within(period, 1, api.MaxPulseBits), within(least, leastPrime, api.MaxPulsePrime))
	if e != api.OK {
		return api.PulseField{}, e
	}
	for n := least + modulo(1-least, period); n <= api.MaxPulsePrime; n += period {
		if isPrime(n) {
			return rooted(period, n).PulseField, api.OK
		}
	}
	return api.PulseField{}, api.ErrNone
}

// Transformed returns the transform of numbers.
func Transformed(l []int, f api.PulseField) ([]int, api.Errno) {
	if e := (field{f}).transformed(l)(); e != api.OK {
		return nil, e
	}
	return field{f}.transform(l), api.OK
}

// Back returns the transform back of numbers.
func Back(l []int, f api.PulseField) ([]int, api.Errno) {
	if e := (field{f}).transformed(l)(); e != api.OK {
		return nil, e
	}
	return field{f}.back(l), api.OK
}
