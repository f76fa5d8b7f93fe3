package pulse_test

import (
	"testing"

	"shoebox/api"
	"shoebox/pulse"
)

// call is a function with a register and a start; its other arguments are right for the register of the examples, or those behind the start are wrong. It tells whether its result is nothing.
type call func(r api.PulseRegister, start int, isRight bool) (bool, api.Errno)

// choose is a right number, or a wrong one.
func choose(isRight bool, right, wrong int) int {
	if isRight {
		return right
	}
	return wrong
}

// calls is the functions that take a register and a start.
func calls() map[string]call {
	y := make([]complex64, 3)
	return map[string]call{
		"Bits": func(r api.PulseRegister, start int, isRight bool) (bool, api.Errno) {
			l, e := pulse.Bits(r, start, choose(isRight, 1, -1))
			return len(l) == 0, e
		},
		"StateAt": func(r api.PulseRegister, start int, isRight bool) (bool, api.Errno) {
			n, e := pulse.StateAt(r, start, choose(isRight, 1, -1))
			return n == 0, e
		},
		"Period": func(r api.PulseRegister, start int, _ bool) (bool, api.Errno) {
			n, e := pulse.Period(r, start)
			return n == 0, e
		},
		"Signs": func(r api.PulseRegister, start int, _ bool) (bool, api.Errno) {
			l, e := pulse.Signs(r, start)
			return len(l) == 0, e
		},
		"Excited": func(r api.PulseRegister, start int, _ bool) (bool, api.Errno) {
			l, e := pulse.Excited(y, r, start)
			return len(l) == 0, e
		},
		"Unfolded": func(r api.PulseRegister, start int, isRight bool) (bool, api.Errno) {
			l, e := pulse.Unfolded(y[:choose(isRight, 3, 1)], r, start)
			return len(l) == 0, e
		},
		"UnfoldedIn": func(r api.PulseRegister, start int, isRight bool) (bool, api.Errno) {
			l, e := pulse.UnfoldedIn(y[:choose(isRight, 3, 1)], started(r, start), field(choose(isRight, 7, 8), 2, 3))
			return len(l) == 0, e
		},
	}
}

// P4.1, P4.3, P4.4, P4.6: the errors of the register come first, then that of the start, then others; and with them nothing else.
func TestRegisterAndStartErrors(t *testing.T) {
	for name, f := range calls() {
		for _, isRight := range []bool{true, false} {
			for _, c := range wrongRegisters {
				for _, start := range list(1, 0, greatestInt) {
					if isNothing, e := f(c.r, start, isRight); !isNothing || e != c.want {
						t.Errorf("%s, %v from %d: nothing %v, error %d, want %d", name, c.r, start, isNothing, e, c.want)
					}
				}
			}
			for _, start := range list(0, -1, 4, leastInt, greatestInt) {
				if isNothing, e := f(two(), start, isRight); !isNothing || e != api.ErrRange {
					t.Errorf("%s from %d: nothing %v, error %d", name, start, isNothing, e)
				}
			}
		}
		for _, start := range list(1, 2, 3) {
			if isNothing, e := f(two(), start, true); isNothing || e != api.OK {
				t.Errorf("%s from %d: nothing %v, error %d", name, start, isNothing, e)
			}
		}
	}
}

// P4.1: the greatest start of each length.
func TestGreatestStart(t *testing.T) {
	for length := 2; length <= 8; length++ {
		r, n := register(length, length), 1<<length-1
		if period, e := pulse.Period(r, n); period != 1 || e != api.OK {
			t.Errorf("%d bits: the period %d, error %d", length, period, e)
		}
		_, e := pulse.Period(r, n+1)
		wantErrno(t, "one more", e, api.ErrRange)
	}
}
