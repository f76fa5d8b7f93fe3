package filter

import (
	"iter"

	"shoebox/api"
)

// stage is a section that runs.
type stage struct {
	api.FilterSection
	api.FilterState
}

// give is the output for an input, and whether it was cut.
func (s *stage) give(x int) (y int, isCut bool) {
	parts := s.B[0]*x + s.B[1]*s.X[0] + s.B[2]*s.X[1] - s.A[0]*s.Y[0] - s.A[1]*s.Y[1]
	uncut := nearest(parts, api.FilterOne)
	y = max(-api.MaxSample, min(uncut, api.MaxSample))
	s.X = [2]int{x, s.X[0]}
	s.Y = [2]int{y, s.Y[0]}
	return y, y != uncut
}

// stages is a cascade that runs.
type stages []stage

// started is a cascade that runs from the states at first on.
func started(c []api.FilterSection) stages {
	return resumed(c, make([]api.FilterState, len(c)))
}

// resumed is a cascade that runs on from states.
func resumed(c []api.FilterSection, states []api.FilterState) stages {
	var l stages
	for i, s := range c {
		l = append(l, stage{s, states[i]})
	}
	return l
}

// through yields the output of each section for an input of the first one, and whether it was cut.
func (l stages) through(x int) iter.Seq2[int, bool] {
	return func(yield func(int, bool) bool) {
		next := x
		for i := range l {
			y, isCut := l[i].give(next)
			if !yield(y, isCut) {
				return
			}
			next = y
		}
	}
}

// run is the outputs for several inputs, and how many outputs of sections were cut.
func (l stages) run(in []int) (out []int, cuts int) {
	for _, x := range in {
		last := x
		for y, isCut := range l.through(x) {
			last = y
			if isCut {
				cuts++
			}
		}
		out = append(out, last)
	}
	return out, cuts
}

func (l stages) states() []api.FilterState {
	var states []api.FilterState
	for _, s := range l {
		states = append(states, s.FilterState)
	}
	return states
}
