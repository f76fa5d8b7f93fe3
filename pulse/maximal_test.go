package pulse_test

import (
	"slices"
	"testing"

	"shoebox/api"
	"shoebox/pulse"
)

// primes is all primes that divide N, by the length.
var primes = map[int][]int{2: {3}, 3: {7}, 4: {3, 5}, 5: {31}, 6: {3, 7}, 7: {127}, 8: {3, 5, 17}}

// P4.2: which registers are maximal, and how many there are.
func TestIsMaximal(t *testing.T) {
	for length, want := range map[int]int{2: 1, 3: 2, 4: 2, 5: 6, 6: 6, 7: 18, 8: 16} {
		count := 0
		for _, r := range registers(length) {
			is, e := pulse.IsMaximal(r)
			if is != (slowPeriod(r, 1) == full(r)) || e != api.OK {
				t.Errorf("%v: %v, error %d", r, is, e)
			}
			if is {
				count++
			}
		}
		if count != want {
			t.Errorf("%d bits: %d registers, want %d", length, count, want)
		}
	}
	if is, e := pulse.IsMaximal(turning()); is || e != api.OK {
		t.Errorf("a register that turns its bits round: %v, error %d", is, e)
	}
	for _, c := range wrongRegisters {
		if is, e := pulse.IsMaximal(c.r); is || e != c.want {
			t.Errorf("%v: %v, error %d, want %d", c.r, is, e, c.want)
		}
	}
}

// P4.2: the errors of the primes of a maximal register.
func TestCheckMaximal(t *testing.T) {
	four, eight := register(4, 1, 4), register(8, 1, 2, 7, 8)
	nine := list(2, 3, 5, 7, 11, 13, 17, 19, 23)
	for _, c := range []struct {
		r      api.PulseRegister
		primes []int
		want   api.Errno
	}{
		{two(), list(3), api.OK},
		{four, list(3, 5), api.OK},
		{eight, list(3, 5, 17), api.OK},
		{four, nine, api.ErrLarge},
		{four, nine[:8], api.ErrProof},
		{four, slices.Repeat([]int{0}, 9), api.ErrLarge},
		{four, slices.Repeat([]int{0}, 8), api.ErrRange},
		{four, list(1, 3, 5), api.ErrRange},
		{four, list(-3, 3, 5), api.ErrRange},
		{four, list(leastInt), api.ErrRange},
		{four, list(3, 5, 256), api.ErrRange},
		{four, list(3, 5, greatestInt), api.ErrRange},
		{four, list(3, 5, 255), api.ErrProof},
		{four, list(2, 3, 5), api.ErrProof},
		{four, list(5, 3), api.ErrOrder},
		{four, list(3, 3, 5), api.ErrOrder},
		{four, list(3, 5, 5), api.ErrOrder},
		{four, list(5, 3, 256), api.ErrOrder},
		{four, list(5, 1), api.ErrRange},
		{four, list(5, 256, 3), api.ErrRange},
		{four, nil, api.ErrProof},
		{four, list(), api.ErrProof},
		{four, list(3), api.ErrProof},
		{four, list(5), api.ErrProof},
		{four, list(15), api.ErrProof},
		{four, list(3, 5, 7), api.ErrProof},
		{four, list(3, 5, 15), api.ErrProof},
		{eight, list(3, 17), api.ErrProof},
		{eight, list(3, 5, 17, 51), api.ErrProof},
		{eight, list(15, 17), api.ErrProof},
		{register(6, 1, 6), list(7, 9), api.ErrProof},
		{register(6, 1, 6), list(3, 7, 9), api.ErrProof},
		{register(6, 1, 6), list(3, 7), api.OK},
		{turning(), list(7), api.ErrProof},
		{register(3, 1, 2, 3), list(7), api.ErrProof},
		{register(4, 1, 2, 3, 4), list(3, 5), api.ErrProof},
		{register(4, 2, 4), list(3, 5), api.ErrProof},
	} {
		if e := pulse.CheckMaximal(c.r, c.primes); e != c.want {
			t.Errorf("%v, %v: error %d, want %d", c.r, c.primes, e, c.want)
		}
	}
	for _, c := range wrongRegisters {
		for _, l := range [][]int{list(3), list(5, 3), nine} {
			if e := pulse.CheckMaximal(c.r, l); e != c.want {
				t.Errorf("%v, %v: error %d, want %d", c.r, l, e, c.want)
			}
		}
	}
}

// P4.2: of all registers just the maximal ones have a proof.
func TestCheckMaximalOfAll(t *testing.T) {
	for _, r := range allRegisters() {
		want := api.OK
		if slowPeriod(r, 1) != full(r) {
			want = api.ErrProof
		}
		if e := pulse.CheckMaximal(r, primes[r.Length]); e != want {
			t.Errorf("%v: error %d, want %d", r, e, want)
		}
	}
}

// P4.2: any numbers that are not the primes of a register are refused.
func TestOtherPrimes(t *testing.T) {
	all := list(2, 3, 5, 7, 15, 17, 31, 51, 85, 127, 255)
	for length := 2; length <= 8; length++ {
		r, right, _ := pulse.FirstMaximal(length)
		for digits := range 1 << len(all) {
			var l []int
			for i, n := range all {
				if digits>>i&1 == 1 {
					l = append(l, n)
				}
			}
			want := api.ErrProof
			if slices.Equal(l, right) {
				want = api.OK
			}
			if e := pulse.CheckMaximal(r, l); len(l) <= 8 && e != want {
				t.Errorf("%v, %v: error %d, want %d", r, l, e, want)
			}
		}
	}
}

// P4.2: the first maximal registers. P4.14: their primes are accepted.
func TestFirstMaximal(t *testing.T) {
	if r, p, e := pulse.FirstMaximal(3); !slices.Equal(r.Taps, list(1, 3)) || !slices.Equal(p, list(7)) || e != api.OK {
		t.Errorf("the example: %v, %v, error %d", r, p, e)
	}
	for length := 2; length <= 8; length++ {
		all := registers(length)
		slices.SortFunc(all, func(a, b api.PulseRegister) int { return slices.Compare(a.Taps, b.Taps) })
		n := slices.IndexFunc(all, func(r api.PulseRegister) bool { return slowPeriod(r, 1) == full(r) })
		r, p, e := pulse.FirstMaximal(length)
		if r.Length != length || !slices.Equal(r.Taps, all[n].Taps) || !slices.Equal(p, primes[length]) || e != api.OK {
			t.Errorf("%d bits: %v, %v, error %d, want %v, %v", length, r, p, e, all[n], primes[length])
		}
		if e := pulse.CheckMaximal(r, p); e != api.OK {
			t.Errorf("%v, %v: refused with %d", r, p, e)
		}
	}
	for _, length := range list(1, 9, 0, -1, leastInt, greatestInt) {
		r, p, e := pulse.FirstMaximal(length)
		if r.Length != 0 || len(r.Taps)+len(p) > 0 || e != api.ErrRange {
			t.Errorf("%d bits: %v, %v, error %d", length, r, p, e)
		}
	}
}
