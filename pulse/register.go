package pulse

import (
	"iter"
	"slices"

	"shoebox/api"
)

const leastLength = 2

// generator is a register that gives bits.
type generator struct{ api.PulseRegister }

// fullPeriod is the period of a maximal register of this length, and the greatest state.
func (g generator) fullPeriod() int { return 1<<g.Length - 1 }

func (g generator) check() api.Errno { return CheckRegister(g.PulseRegister) }

// startsAt is the condition that a number is a start; the register has to be right.
func (g generator) startsAt(start int) condition {
	return func() api.Errno { return within(start, 1, g.fullPeriod())() }
}

// next is the state behind a state: the oldest bit leaves, and the new one is the highest digit.
func (g generator) next(state int) int {
	bit := 0
	for _, tap := range g.Taps {
		bit ^= state >> (g.Length - tap) & 1
	}
	return state>>1 | bit<<(g.Length-1)
}

// states yields the state at 0, at 1, and so on, without an end.
func (g generator) states(start int) iter.Seq[int] {
	return func(yield func(int) bool) {
		for state := start; yield(state); {
			state = g.next(state)
		}
	}
}

func (g generator) bits(start, count int) []int {
	var l []int
	for state := range g.states(start) {
		if len(l) == count {
			break
		}
		l = append(l, state&1)
	}
	return l
}

// stateAt goes all steps, one by one.
func (g generator) stateAt(start, steps int) int {
	state := start
	for range steps {
		state = g.next(state)
	}
	return state
}

// period ends for all starts: each state comes behind one other alone, because the oldest bit is always added.
func (g generator) period(start int) int {
	steps := 1
	for state := range g.states(g.next(start)) {
		if state == start {
			break
		}
		steps++
	}
	return steps
}

// CheckRegister returns the first error of a register.
func CheckRegister(r api.PulseRegister) api.Errno {
	return firstError(
		within(r.Length, leastLength, api.MaxPulseLength),
		refuse(len(r.Taps) == 0, api.ErrShape),
		ascending(r.Taps, 1, r.Length),
		refuse(!slices.Contains(r.Taps, r.Length), api.ErrMissing),
	)
}

// Bits returns the first bits of a start.
func Bits(r api.PulseRegister, start, count int) ([]int, api.Errno) {
	g := generator{r}
	if e := firstError(g.check, g.startsAt(start), within(count, 0, api.MaxPulseBits)); e != api.OK {
		return nil, e
	}
	return g.bits(start, count), api.OK
}

// StateAt returns the state of a start at a number of steps.
func StateAt(r api.PulseRegister, start, steps int) (int, api.Errno) {
	g := generator{r}
	if e := firstError(g.check, g.startsAt(start), within(steps, 0, api.MaxPulseSteps)); e != api.OK {
		return 0, e
	}
	return g.stateAt(start, steps%g.period(start)), api.OK
}

// Period returns the period of a start.
func Period(r api.PulseRegister, start int) (int, api.Errno) {
	g := generator{r}
	if e := firstError(g.check, g.startsAt(start)); e != api.OK {
		return 0, e
	}
	return g.period(start), api.OK
}
