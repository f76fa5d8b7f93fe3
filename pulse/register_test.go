package pulse_test

import (
	"math/rand"
	"slices"
	"testing"

	"shoebox/api"
	"shoebox/pulse"
)

// wrongRegisters is registers with their first error.
var wrongRegisters = []struct {
	r    api.PulseRegister
	want api.Errno
}{
	{register(1, 1), api.ErrRange},
	{register(9, 9), api.ErrRange},
	{register(0), api.ErrRange},
	{register(-1, 9, 9), api.ErrRange},
	{register(64, 64), api.ErrRange},
	{register(leastInt, 1), api.ErrRange},
	{register(greatestInt), api.ErrRange},
	{register(2), api.ErrShape},
	{register(8, list()...), api.ErrShape},
	{register(3, 0, 3), api.ErrRange},
	{register(3, -1, 3), api.ErrRange},
	{register(3, 4), api.ErrRange},
	{register(3, 1, 4), api.ErrRange},
	{register(3, 1, 3, 4), api.ErrRange},
	{register(3, leastInt, 3), api.ErrRange},
	{register(3, 3, greatestInt), api.ErrRange},
	{register(3, 2, 2, 3), api.ErrOrder},
	{register(3, 2, 1, 3), api.ErrOrder},
	{register(3, 3, 1), api.ErrOrder},
	{register(3, 3, 3), api.ErrOrder},
	{register(3, 2, 0, 3), api.ErrRange},
	{register(3, 2, 1, 4), api.ErrOrder},
	{register(3, 2, 4, 1), api.ErrRange},
	{register(8, slices.Repeat([]int{8}, 2000)...), api.ErrOrder},
	{register(3, 1), api.ErrMissing},
	{register(3, 1, 2), api.ErrMissing},
	{register(8, 1, 2, 3, 4, 5, 6, 7), api.ErrMissing},
}

// P4.1: the errors of registers.
func TestCheckRegister(t *testing.T) {
	for _, c := range wrongRegisters {
		if e := pulse.CheckRegister(c.r); e != c.want {
			t.Errorf("%v: error %d, want %d", c.r, e, c.want)
		}
	}
	for _, r := range allRegisters() {
		if e := pulse.CheckRegister(r); e != api.OK {
			t.Errorf("%v: error %d", r, e)
		}
	}
}

// P4.1: the example.
func TestBitsOfTheExample(t *testing.T) {
	l, e := pulse.Bits(two(), 1, 6)
	wantInts(t, "bits", l, e, list(1, 0, 1, 1, 0, 1))
	for steps, want := range list(1, 2, 3, 1) {
		if n, e := pulse.StateAt(two(), 1, steps); n != want || e != api.OK {
			t.Errorf("the state at %d: %d, error %d", steps, n, e)
		}
	}
	if n, e := pulse.StateAt(two(), 1, 1000000000); n != 2 || e != api.OK {
		t.Errorf("the state at the end: %d, error %d", n, e)
	}
	if n, e := pulse.Period(two(), 1); n != 3 || e != api.OK {
		t.Errorf("the period: %d, error %d", n, e)
	}
}

// P4.1: the numbers of bits and of steps that can be asked.
func TestHowManyBits(t *testing.T) {
	for count, want := range map[int]api.Errno{
		0: api.OK, 1: api.OK, 1024: api.OK, -1: api.ErrRange, 1025: api.ErrRange, leastInt: api.ErrRange, greatestInt: api.ErrRange,
	} {
		l, e := pulse.Bits(turning(), 3, count)
		if e != want || e == api.OK && len(l) != count || e != api.OK && len(l) > 0 {
			t.Errorf("%d bits: %d, error %d", count, len(l), e)
		}
	}
	for steps, want := range map[int]api.Errno{
		0: api.OK, 1000000000: api.OK, -1: api.ErrRange, 1000000001: api.ErrRange, leastInt: api.ErrRange, greatestInt: api.ErrRange,
	} {
		n, e := pulse.StateAt(turning(), 3, steps)
		if e != want || (e == api.OK) != (n > 0) {
			t.Errorf("%d steps: %d, error %d", steps, n, e)
		}
	}
}

// P4.1: bits, states and periods as they follow from the definition, of all registers.
func TestRegistersSlowly(t *testing.T) {
	r := rand.New(rand.NewSource(1))
	for _, x := range allRegisters() {
		start := anyStart(r, x)
		count := r.Intn(300)
		l, e := pulse.Bits(x, start, count)
		wantInts(t, "bits", l, e, slowBits(x, start, count))
		steps := r.Intn(600)
		if n, e := pulse.StateAt(x, start, steps); n != slowState(x, start, steps) || e != api.OK {
			t.Errorf("%v from %d: the state at %d: %d, error %d", x, start, steps, n, e)
		}
		period := slowPeriod(x, start)
		if n, e := pulse.Period(x, start); n != period || e != api.OK {
			t.Errorf("%v from %d: the period %d, error %d, want %d", x, start, n, e, period)
		}
		late := 1000000000 - r.Intn(300)
		if n, e := pulse.StateAt(x, start, late); n != slowState(x, start, late%period) || e != api.OK {
			t.Errorf("%v from %d: the state at %d: %d, error %d", x, start, late, n, e)
		}
	}
}

// P4.1, P4.3: as many bits as can be, and all starts of a register that is not maximal.
func TestTurningRegister(t *testing.T) {
	x := register(4, 4)
	l, e := pulse.Bits(x, 11, 1024)
	wantInts(t, "bits", l, e, slices.Repeat(list(1, 1, 0, 1), 256))
	for start, want := range map[int]int{1: 4, 3: 4, 5: 2, 10: 2, 15: 1, 7: 4} {
		if n, e := pulse.Period(x, start); n != want || e != api.OK {
			t.Errorf("the period of %d: %d, error %d, want %d", start, n, e, want)
		}
	}
	if n, e := pulse.StateAt(x, 1, 1); n != 8 || e != api.OK {
		t.Errorf("the state at 1: %d, error %d", n, e)
	}
	l, e = pulse.Signs(x, 1)
	wantInts(t, "signs", l, e, list(-1, 1, 1, 1, -1, 1, 1, 1, -1, 1, 1, 1, -1, 1, 1))
}

// P4.10: of a maximal register, all starts have the period N, and the state takes each number.
func TestMaximalPeriods(t *testing.T) {
	for _, x := range maximalRegisters() {
		for start := 1; start <= full(x); start++ {
			if n, e := pulse.Period(x, start); n != full(x) || e != api.OK {
				t.Fatalf("%v: the period of %d: %d, error %d", x, start, n, e)
			}
		}
		var states []int
		for steps := range full(x) {
			n, _ := pulse.StateAt(x, 1, steps)
			states = append(states, n)
		}
		slices.Sort(states)
		if states = slices.Compact(states); len(states) != full(x) || states[0] != 1 || states[len(states)-1] != full(x) {
			t.Errorf("%v: states %v", x, states)
		}
	}
}
