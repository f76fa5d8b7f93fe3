package pulse_test

import (
	"math/rand"
	"slices"
	"testing"

	"shoebox/api"
	"shoebox/pulse"
)

func started(r api.PulseRegister, start int) api.PulseStart {
	return api.PulseStart{Register: r, Start: start}
}

// P4.6: the example, in several fields.
func TestUnfoldedInOfTheExample(t *testing.T) {
	y := numbers(-3-2i, 5-2i, -5+2i)
	for _, f := range []api.PulseField{field(13, 3, 3), field(13, 9, 3), field(greatPrime, 1513477735, 3)} {
		l, e := pulse.UnfoldedIn(y, started(two(), 1), f)
		wantNumbers(t, "unfolded", l, e, numbers(4, -1+2i, 0), api.OK)
	}
	l, e := pulse.UnfoldedIn(y, started(two(), 1), field(7, 2, 3))
	wantNumbers(t, "4 is greater than half of 7", l, e, numbers(-3, -1+2i, 0), api.OK)
}

// P4.6: the errors of what is unfolded by transforms.
func TestUnfoldedInErrors(t *testing.T) {
	right, seven := field(7, 2, 3), make([]complex64, 7)
	y := numbers(1, 2i, 3)
	six := field(7, 3, 6)
	for _, c := range []struct {
		name string
		y    []complex64
		x    api.PulseStart
		f    api.PulseField
		want api.Errno
	}{
		{"right", y, started(two(), 3), right, api.OK},
		{"not maximal", seven, started(turning(), 1), field(29, 7, 7), api.ErrState},
		{"maximal", seven, started(register(3, 1, 3), 1), field(29, 7, 7), api.OK},
		{"not maximal, as many as its period", y, started(turning(), 1), right, api.ErrState},
		{"not maximal, with nothing that fits", y, started(turning(), 1), six, api.ErrState},
		{"not maximal ahead of what clashes", y[:1], started(turning(), 1), right, api.ErrState},
		{"the field ahead of not maximal", seven, started(turning(), 1), field(29, 1, 7), api.ErrProof},
		{"the start ahead of the field", y, started(two(), 4), field(9, 2, 3), api.ErrRange},
		{"the start ahead of not maximal", seven, started(turning(), 8), field(29, 7, 7), api.ErrRange},
		{"the list ahead of the register", nil, started(register(2), 1), right, api.ErrShape},
		{"the register ahead of the start", y, started(register(2), 4), right, api.ErrShape},
		{"too few", y[:2], started(two(), 1), right, api.ErrClash},
		{"too many", slices.Repeat(y, 2), started(two(), 1), right, api.ErrClash},
		{"as many as a period that is not N", slices.Repeat(y, 2), started(two(), 1), six, api.ErrClash},
		{"as many as N, but not the period", y, started(two(), 1), six, api.ErrClash},
		{"another period", y, started(two(), 1), field(7, 1, 1), api.ErrClash},
	} {
		l, e := pulse.UnfoldedIn(c.y, c.x, c.f)
		wantErrno(t, c.name, e, c.want)
		if e == api.OK && len(l) != len(c.y) || e != api.OK && len(l) > 0 {
			t.Errorf("%s: %v, error %d", c.name, l, e)
		}
	}
	for _, c := range wrongFields {
		l, e := pulse.UnfoldedIn(y, started(two(), 1), c.f)
		wantNumbers(t, "a wrong field", l, e, nil, c.want)
	}
}

// P4.6: parts up to half of the prime, and the ones behind.
func TestHalfOfThePrime(t *testing.T) {
	for _, f := range []api.PulseField{field(7, 4, 3), field(13, 3, 3), field(19, 7, 3)} {
		for n := -3 * f.Prime; n <= 3*f.Prime; n++ {
			want := (n%f.Prime + f.Prime) % f.Prime
			if 2*want > f.Prime {
				want -= f.Prime
			}
			y, _ := pulse.Excited(numbers(0, both(n, -2*n)), two(), 2)
			l, e := pulse.UnfoldedIn(y, started(two(), 2), f)
			if e != api.OK || len(l) != 3 || l[0] != 0 || l[2] != 0 || int(real(l[1])) != want {
				t.Errorf("%d in %v: %v, error %d, want %d", n, f, l, e, want)
			}
		}
	}
}

// P4.6: a response that is too large: also one of a recording that no response with whole parts has.
func TestUnfoldedInTooLarge(t *testing.T) {
	great, small := field(greatPrime, 1513477735, 3), field(7, 2, 3)
	x := started(two(), 1)
	half := numbers(1, 0, 0) // of a response with -1/2
	l, e := pulse.UnfoldedIn(half, x, great)
	wantNumbers(t, "halves of a great prime", l, e, nil, api.ErrLarge)
	l, e = pulse.UnfoldedIn(numbers(1i, 0, 0), x, great)
	wantNumbers(t, "imaginary halves of a great prime", l, e, nil, api.ErrLarge)
	l, e = pulse.UnfoldedIn(half, x, small)
	wantNumbers(t, "halves of 7", l, e, numbers(3, 3, 0), api.OK)
	for _, n := range numbers(most, -most, most*1i, most-most*1i) {
		y, _ := pulse.Excited(numbers(n), two(), 1)
		l, e := pulse.UnfoldedIn(y, x, great)
		wantNumbers(t, "the greatest part", l, e, numbers(n, 0, 0), api.OK)
	}
}

// P4.6: responses that are just too large, of recordings that are not: of a number a the response is -a/2, modulo the prime.
func TestUnfoldedInJustTooLarge(t *testing.T) {
	f, e := pulse.FieldOf(3, 2*most+10)
	wantErrno(t, "the field", e, api.OK)
	for n, wrong := range map[int]api.Errno{most: api.OK, most + 1: api.ErrLarge, -most: api.OK, -most - 1: api.ErrLarge} {
		a := f.Prime - 2*n
		if n < 0 {
			a = -f.Prime - 2*n
		}
		l, e := pulse.UnfoldedIn(numbers(both(a, 0), 0, 0), started(two(), 1), f)
		wantNumbers(t, "a real part", l, e, numbers(both(n, 0), both(n, 0), 0), wrong)
		l, e = pulse.UnfoldedIn(numbers(both(0, a), 0, 0), started(two(), 1), f)
		wantNumbers(t, "an imaginary part", l, e, numbers(both(0, n), both(0, n), 0), wrong)
	}
}

// P4.6: modulo the prime, what is unfolded excites the recording again, whatever it is.
func TestUnfoldedInExcites(t *testing.T) {
	r := rand.New(rand.NewSource(12))
	for _, x := range maximalRegisters() {
		n, start := full(x), anyStart(r, x)
		f, e := pulse.FieldOf(n, 2+r.Intn(1000))
		y := anyNumbers(r, n, list(1, 1000, most)[r.Intn(3)])
		h, g := pulse.UnfoldedIn(y, started(x, start), f)
		if e+g != api.OK || len(h) != n {
			t.Fatalf("%v: %v, errors %d, %d", x, h, e, g)
		}
		signs := slowSigns(x, start)
		for k := range y {
			re, im := int(real(y[k])), int(imag(y[k]))
			for i, c := range h {
				re -= int(real(c)) * signs[(k-i+n)%n]
				im -= int(imag(c)) * signs[(k-i+n)%n]
			}
			if re%f.Prime != 0 || im%f.Prime != 0 {
				t.Fatalf("%v: the number %d is off by %d, %d", x, k, re, im)
			}
		}
		for _, c := range h {
			if max(real(c), -real(c), imag(c), -imag(c)) > float32(f.Prime/2) {
				t.Errorf("%v: %v is above half of %d", x, c, f.Prime)
			}
		}
	}
}

// P4.11: what is unfolded in the second way is the response too, if its parts are less than half of the prime.
func TestUnfoldedInExactly(t *testing.T) {
	r := rand.New(rand.NewSource(13))
	for i, x := range maximalRegisters() {
		start, size := anyStart(r, x), list(3, 500, 20000)[i%3]
		h := anyNumbers(r, 1+r.Intn(2*full(x)), size)
		if len(h) > full(x) {
			size *= 2
		}
		f, _ := pulse.FieldOf(full(x), 2*size+1)
		y, e := pulse.Excited(h, x, start)
		want, _ := slowFolded(h, full(x))
		l, g := pulse.UnfoldedIn(y, started(x, start), f)
		wantNumbers(t, "unfolded", l, g, want, e)
		m, g := pulse.Unfolded(y, x, start)
		wantNumbers(t, "in both ways", m, g, l, e)
	}
}
