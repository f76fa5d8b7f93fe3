package engine

import (
	"shoebox/api"
	"shoebox/filter"
)

// start is the state of a graph ahead of all blocks.
func (g *graph) start() api.EngineState {
	var s api.EngineState
	for _, u := range g.Units {
		// cascades were looked at; other units have none
		states, _ := filter.NewState(u.Cascade)
		s.Past = append(s.Past, make([]float32, api.EnginePast))
		s.Filters = append(s.Filters, states)
	}
	return s
}

// Start returns the state of a graph ahead of all blocks.
func Start(g api.EngineGraph) (api.EngineState, api.Errno) {
	v, e := visit(g)
	if e != api.OK {
		return api.EngineState{}, e
	}
	return v.start(), api.OK
}

// stateError is the first error of a state.
func (g *graph) stateError(s api.EngineState) api.Errno {
	switch {
	case !isWithin(s.Blocks, 0, api.MaxEngineBlocks):
		return api.ErrRange
	case !g.fits(s):
		return api.ErrShape
	}
	for unit, u := range g.Units {
		if e := samplesError(s.Past[unit]); e != api.OK {
			return e
		}
		if _, _, _, e := filter.Run(u.Cascade, api.Block{}, s.Filters[unit]); e != api.OK {
			return e
		}
	}
	return api.OK
}

// fits tells whether the lists of a state are as long as those of a state of this graph.
func (g *graph) fits(s api.EngineState) bool {
	if len(s.Past) != len(g.Units) || len(s.Filters) != len(g.Units) {
		return false
	}
	for unit, u := range g.Units {
		if len(s.Past[unit]) != api.EnginePast || len(s.Filters[unit]) != len(u.Cascade) {
			return false
		}
	}
	return true
}

// CheckState returns the first error of a state of a graph.
func CheckState(g api.EngineGraph, s api.EngineState) api.Errno {
	v, e := visit(g)
	if e != api.OK {
		return e
	}
	return v.stateError(s)
}

// stepError is the first error of a step from a right state.
func (g *graph) stepError(s api.EngineState, x api.EngineInput) api.Errno {
	switch {
	case s.Blocks == api.MaxEngineBlocks:
		return api.ErrFull
	case len(x.Blocks) != len(g.ofKind(api.UnitInput)):
		return api.ErrShape
	}
	if e := blocksError(x.Blocks); e != api.OK {
		return e
	}
	for i, unit := range x.Failed {
		switch {
		case !g.has(unit):
			return api.ErrMissing
		case i > 0 && unit <= x.Failed[i-1]:
			return api.ErrOrder
		}
	}
	return api.OK
}

// Step returns the blocks of all outputs for the next block, what was cut, and the state behind it.
func Step(g api.EngineGraph, s api.EngineState, x api.EngineInput) (api.EngineOutput, api.EngineState, api.Errno) {
	v, e := visit(g)
	if e == api.OK {
		e = v.stateError(s)
	}
	if e == api.OK {
		e = v.stepError(s, x)
	}
	if e != api.OK {
		return api.EngineOutput{}, api.EngineState{}, e
	}
	var in [][]api.Block
	for _, b := range x.Blocks {
		in = append(in, []api.Block{b})
	}
	var faults []api.EngineFault
	for _, unit := range x.Failed {
		faults = append(faults, api.EngineFault{Unit: unit})
	}
	r := v.newRound(s, 1, in, v.onsets(faults))
	r.workAll()
	y := api.EngineOutput{Cuts: r.allCuts()}
	for _, blocks := range r.outputs() {
		y.Blocks = append(y.Blocks, blocks...)
	}
	return y, r.state(s.Blocks), api.OK
}

// tapeError is the first error of a tape.
func (g *graph) tapeError(x api.EngineTape) api.Errno {
	if len(x.In) != len(g.ofKind(api.UnitInput)) {
		return api.ErrShape
	}
	for _, blocks := range x.In {
		if len(blocks) != len(x.In[0]) {
			return api.ErrShape
		}
	}
	if countOf(x.In) > api.MaxEngineBlocks {
		return api.ErrLarge
	}
	for _, blocks := range x.In {
		if e := blocksError(blocks); e != api.OK {
			return e
		}
	}
	_, e := g.faultError(x.Faults)
	return e
}

// countOf is how many blocks each channel has.
func countOf(in [][]api.Block) int {
	if len(in) == 0 {
		return 0
	}
	return len(in[0])
}

// runTape works on a tape in some way, and returns the blocks of all outputs, and what was cut.
func (g *graph) runTape(x api.EngineTape, work func(r *round)) ([][]api.Block, int, api.Errno) {
	if e := g.tapeError(x); e != api.OK {
		return nil, 0, e
	}
	r := g.newRound(g.start(), countOf(x.In), x.In, g.onsets(x.Faults))
	work(r)
	return r.outputs(), r.allCuts(), api.OK
}

// Run returns the blocks of all outputs for a tape, and how many samples were cut.
func Run(g api.EngineGraph, in [][]api.Block, l []api.EngineFault) ([][]api.Block, int, api.Errno) {
	v, e := visit(g)
	if e != api.OK {
		return nil, 0, e
	}
	return v.runTape(api.EngineTape{In: in, Faults: l}, (*round).workAll)
}
