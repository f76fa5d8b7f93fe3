package filter

import "shoebox/api"

// stateError returns the first error of the states of a cascade that has none, and the number of the state that has it.
func stateError(c []api.FilterSection, s []api.FilterState) (int, api.Errno) {
	if len(s) != len(c) {
		return 0, api.ErrShape
	}
	for i, one := range s {
		e := firstError(allSmall(one.X[:], api.MaxSample), allSmall(one.Y[:], api.MaxSample))
		if e != api.OK {
			return i, e
		}
	}
	return 0, api.OK
}

// NewState returns the states of a cascade at first.
func NewState(c []api.FilterSection) ([]api.FilterState, api.Errno) {
	if e := cascadeError(c); e != api.OK {
		return nil, e
	}
	return started(c).states(), api.OK
}

// CheckState returns the first error of a cascade and its states, and the number of the state that has it.
func CheckState(c []api.FilterSection, s []api.FilterState) (int, api.Errno) {
	if e := cascadeError(c); e != api.OK {
		return 0, e
	}
	return stateError(c, s)
}

// Run returns the outputs of a cascade for a block, its states behind them, and how many outputs of sections were cut.
func Run(c []api.FilterSection, b api.Block, s []api.FilterState) (api.Block, []api.FilterState, int, api.Errno) {
	in, wrongSample := numbersOf(b[:])
	_, wrongState := stateError(c, s)
	if e := firstError(cascadeError(c), wrongSample, wrongState); e != api.OK {
		return api.Block{}, nil, 0, e
	}
	l := resumed(c, s)
	out, cuts := l.run(in)
	return api.Block(samplesOf(out)), l.states(), cuts, api.OK
}

// RunAll returns the outputs of a cascade for samples, from the states at first on, and how many outputs of sections were cut.
func RunAll(c []api.FilterSection, l []float32) ([]float32, int, api.Errno) {
	if e := firstError(cascadeError(c), refuse(len(l) > api.MaxResponse, api.ErrLarge)); e != api.OK {
		return nil, 0, e
	}
	in, e := numbersOf(l)
	if e != api.OK {
		return nil, 0, e
	}
	out, cuts := started(c).run(in)
	return samplesOf(out), cuts, api.OK
}

// Impulse returns the first outputs of a cascade for an input that is silent behind its first sample.
func Impulse(c []api.FilterSection, height, count int) ([]int, api.Errno) {
	e := firstError(
		cascadeError(c),
		within(height, -api.MaxSample, api.MaxSample),
		within(count, 0, api.MaxResponse),
	)
	if e != api.OK || count == 0 {
		return nil, e
	}
	in := make([]int, count)
	in[0] = height
	out, _ := started(c).run(in)
	return out, api.OK
}
