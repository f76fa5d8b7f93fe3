package pulse_test

import (
	"math"
	"math/rand"
	"slices"
	"testing"

	"shoebox/api"
)

const (
	leastInt    = -1 << 63
	greatestInt = 1<<63 - 1
	most        = 16777216 // the greatest part of a recording
)

func list(l ...int) []int { return l }

func register(length int, taps ...int) api.PulseRegister {
	return api.PulseRegister{Length: length, Taps: taps}
}

// two is the register of the examples, turning one that is not maximal.
func two() api.PulseRegister     { return register(2, 1, 2) }
func turning() api.PulseRegister { return register(3, 3) }

func field(prime, root, period int) api.PulseField {
	return api.PulseField{Prime: prime, Root: root, Period: period}
}

func numbers(l ...complex64) []complex64 { return l }

// both is a complex number with whole parts.
func both(re, im int) complex64 { return complex(float32(re), float32(im)) }

// isNumbers tells whether two lists are the same, and no part of the first one is -0.
func isNumbers(l, want []complex64) bool {
	for _, c := range l {
		if isMinusZero(real(c)) || isMinusZero(imag(c)) {
			return false
		}
	}
	return slices.Equal(l, want)
}

func isMinusZero(part float32) bool { return part == 0 && math.Signbit(float64(part)) }

func minusZero() float32 { return float32(math.Copysign(0, -1)) }

func wantErrno(t *testing.T, name string, e, want api.Errno) {
	t.Helper()
	if e != want {
		t.Errorf("%s: error %d, want %d", name, e, want)
	}
}

// wantNumbers tests a list that came with an error: none beside any error.
func wantNumbers(t *testing.T, name string, l []complex64, e api.Errno, want []complex64, wrong api.Errno) {
	t.Helper()
	if e != wrong || e != api.OK && len(l) > 0 || e == api.OK && !isNumbers(l, want) {
		t.Errorf("%s: %v, error %d, want %v, %d", name, l, e, want, wrong)
	}
}

func wantInts(t *testing.T, name string, l []int, e api.Errno, want []int) {
	t.Helper()
	if e != api.OK || !slices.Equal(l, want) {
		t.Errorf("%s: %v, error %d, want %v", name, l, e, want)
	}
}

// registers is all right registers of a length.
func registers(length int) []api.PulseRegister {
	var l []api.PulseRegister
	for digits := range 1 << (length - 1) {
		var taps []int
		for tap := 1; tap < length; tap++ {
			if digits>>(tap-1)&1 == 1 {
				taps = append(taps, tap)
			}
		}
		l = append(l, register(length, append(taps, length)...))
	}
	return l
}

func allRegisters() []api.PulseRegister {
	var l []api.PulseRegister
	for length := 2; length <= 8; length++ {
		l = append(l, registers(length)...)
	}
	return l
}

// maximalRegisters is a choice of registers that slowPeriod finds maximal: all of them up to the length 6, and some longer ones.
func maximalRegisters() []api.PulseRegister {
	var l []api.PulseRegister
	for length := 2; length <= 8; length++ {
		count := 0
		for _, r := range registers(length) {
			if slowPeriod(r, 1) == full(r) && (length <= 6 || count < 3) {
				l = append(l, r)
				count++
			}
		}
	}
	return l
}

// full is N.
func full(r api.PulseRegister) int { return 1<<r.Length - 1 }

// anyStart is a start of a register: the least one and the greatest one come often.
func anyStart(r *rand.Rand, x api.PulseRegister) int {
	return list(1, full(x), 1+r.Intn(full(x)))[r.Intn(3)]
}

// anyNumbers is complex numbers with parts that are at most so great.
func anyNumbers(r *rand.Rand, count, size int) []complex64 {
	l := make([]complex64, count)
	for i := range l {
		l[i] = both(r.Intn(2*size+1)-size, r.Intn(2*size+1)-size)
	}
	return l
}

func sumOf(a, b []complex64) []complex64 {
	l := slices.Clone(a)
	for i, c := range b {
		l[i] += c
	}
	return l
}
