package figure_test

import (
	"math"
	"math/rand"
	"testing"

	"shoebox/api"
	"shoebox/figure"
)

// hasNoMinusZero tells whether no part of a number is -0.
func hasNoMinusZero(z complex128) bool {
	for _, part := range []float64{real(z), imag(z)} {
		if part == 0 && math.Signbit(part) {
			return false
		}
	}
	return true
}

// P5.7: the modulations of the example, and of responses with one sample.
func TestModulated(t *testing.T) {
	for _, c := range []struct {
		name  string
		r     api.Response
		block int
		want  complex128
	}{
		{"the example by 1", five(), 1, 60 - 15i},
		{"the example by 2", five(), 2, 80 - 5i},
		{"the example by 3", five(), 3, 84 - 1i},
		{"the example by 4", five(), 4, 85},
		{"the example by 1024", five(), 1024, 85},
		{"at 0", onlyAt(8000, 9, 0, 3), 1, 9},
		{"at 1", onlyAt(8000, 9, 1, 3), 1, -9i},
		{"at 2", onlyAt(8000, 9, 2, 3), 1, -9},
		{"at 3", onlyAt(8000, 9, 3, 3), 1, 9i},
		{"at 4", onlyAt(8000, 9, 4, 3), 1, 9},
		{"at 8", onlyAt(8000, 9, 8, 3), 1, 9},
		{"the last one of all", onlyAt(8000, 1024, 1023, -3), 1023, -9i},
		{"the last one of all by 1024", onlyAt(8000, 1024, 1023, -3), 1024, 9},
		{"the loudest", loudest(), 1024, 1024 * loud * loud},
		{"the loudest by 256", loudest(), 256, 0},
		{"the loudest by 512", loudest(), 512, 512*loud*loud - 512*loud*loud*1i},
		{"silence", response(8000, 0, 0, 0, 0), 1, 0},
		{"silence below", response(8000, minusZero(), minusZero(), minusZero()), 1, 0},
	} {
		z, e := figure.Modulated(c.r, c.block)
		wantSame(t, c.name, z, e, c.want, api.OK)
		if !hasNoMinusZero(z) {
			t.Errorf("%s: %v", c.name, z)
		}
	}
}

// P5.7: the transfers of the example, and their errors.
func TestTransfer(t *testing.T) {
	for _, c := range []struct {
		name  string
		r     api.Response
		block int
		want  api.Frac
		err   api.Errno
	}{
		{"the example by 1", five(), 1, frac(9, 17), api.OK},
		{"the example by 2", five(), 2, frac(257, 289), api.OK},
		{"the example by 4", five(), 4, frac(1, 1), api.OK},
		{"one and the same", repeated(8000, 4, 100), 1, frac(0, 1), api.OK},
		{"a half", repeated(8000, 2, 15000), 1, frac(1, 2), api.OK},
		{"silence", response(8000, 0, 0), 1, frac(0, 0), api.ErrZero},
		{"energy of 10^9", response(8000, 31622, 221, 16, 3, 3, 1), 6, frac(1, 1), api.OK},
		{"energy of one more", response(8000, 31622, 221, 16, 3, 3, 1, 1), 7, frac(0, 0), api.ErrLarge},
		{"the loudest", loudest(), 1, frac(0, 0), api.ErrLarge},
		{"a great denominator", response(8000, 31622, 1), 1, frac(0, 0), api.ErrLarge},
	} {
		f, e := figure.Transfer(c.r, c.block)
		wantSame(t, c.name, f, e, c.want, c.err)
	}
}

// P5.7, P5.13: modulations as they follow from the definition, never greater in size than the energy.
func TestModulationSlowly(t *testing.T) {
	r := rand.New(rand.NewSource(14))
	for range 120 {
		x, block := anyResponse(r), anyOf(r, 1, 2, 3, 1+r.Intn(20), 1+r.Intn(api.MaxResponse))
		re, im := slowModulated(x, block)
		z, e := figure.Modulated(x, block)
		wantSame(t, "Modulated", z, e, complex(float64(floor(re)), float64(floor(im))), api.OK)
		if !hasNoMinusZero(z) {
			t.Errorf("%v by %d: %v", x, block, z)
		}
		energy, _ := figure.Energy(x, window(0, len(x.Samples)))
		if !isAtMost(plus(times(re, re), times(im, im)), times(whole(energy), whole(energy))) {
			t.Errorf("%v is greater than %d", z, energy)
		}
		f, e := figure.Transfer(x, block)
		want, wrong := slowTransfer(x, block)
		wantSame(t, "Transfer", f, e, want, wrong)
	}
}

// P5.7: a number of the result that is just small enough, or just not.
func TestGreatTransfers(t *testing.T) {
	r := rand.New(rand.NewSource(15))
	small, large := 0, 0
	for range 3000 {
		x := response(8000, float32(r.Intn(400)), float32(r.Intn(400)), float32(r.Intn(20)))
		f, e := figure.Transfer(x, 1)
		want, wrong := slowTransfer(x, 1)
		wantSame(t, "Transfer", f, e, want, wrong)
		if e == api.ErrLarge {
			large++
		} else if f.Den > 100000000 {
			small++
		}
	}
	if small < 20 || large < 20 {
		t.Errorf("only %d are small, %d large", small, large)
	}
}
