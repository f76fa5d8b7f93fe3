package engine

import (
	"slices"

	"shoebox/api"
	"shoebox/filter"
)

// round is a graph that works on blocks one after the other.
type round struct {
	*graph
	count int
	// onsets is the block of the round from which on each unit has failed.
	onsets []int
	// tape is the blocks of each input, by the number of its unit.
	tape [][]api.Block
	// tracks is the samples of each unit, with those of the state ahead; each block has a place of its own, so that one worker can write a block while another one reads those before it.
	tracks  [][]float32
	filters [][]api.FilterState
	cuts    []int
}

// newRound is a round of so many blocks behind a state; in has the blocks of each channel.
func (g *graph) newRound(s api.EngineState, count int, in [][]api.Block, onsets []int) *round {
	r := &round{graph: g, count: count, onsets: onsets, cuts: make([]int, len(g.Units))}
	r.tape = make([][]api.Block, len(g.Units))
	for channel, unit := range g.ofKind(api.UnitInput) {
		r.tape[unit] = in[channel]
	}
	for unit := range g.Units {
		track := make([]float32, api.EnginePast+count*api.BlockSize)
		put(track, s.Past[unit])
		r.tracks = append(r.tracks, track)
		r.filters = append(r.filters, slices.Clone(s.Filters[unit]))
	}
	return r
}

// samplesOf is the samples of a unit in a block, as they were some samples before.
func (r *round) samplesOf(unit, block, before int) []float32 {
	begin := api.EnginePast + block*api.BlockSize - before
	return r.tracks[unit][begin : begin+api.BlockSize]
}

// taken is what a unit takes in a block from the unit with the number i in its From; only delays have a Delay above 0.
func (r *round) taken(unit, i, block int) []float32 {
	u := r.Units[unit]
	return r.samplesOf(u.From[i], block, u.Align[i]+u.Delay)
}

// work finds the samples of a unit in a block, behind those of all that it needs.
func (r *round) work(unit, block int) {
	u := r.Units[unit]
	out := r.samplesOf(unit, block, 0)
	switch {
	case block >= r.onsets[unit]:
		// if its Stand has failed as well, whoever stands in for that one has given these samples
		if u.Stand != nobody {
			copy(out, r.samplesOf(u.Stand, block, 0))
		}
	case u.Kind == api.UnitInput:
		put(out, r.tape[unit][block][:])
	case u.Kind == api.UnitSum:
		r.add(unit, block, out)
	case u.Kind == api.UnitFilter:
		r.filter(unit, block, out)
	default:
		copy(out, r.taken(unit, 0, block))
	}
}

func (r *round) add(unit, block int, out []float32) {
	u := r.Units[unit]
	var sums [api.BlockSize]int
	for i, gain := range u.Gains {
		for t, x := range r.taken(unit, i, block) {
			sums[t] += int(x) * gain
		}
	}
	for t, sum := range sums {
		y, isCut := cut(nearest(sum, api.Thousand))
		out[t] = float32(y)
		if isCut {
			r.cuts[unit]++
		}
	}
}

func (r *round) filter(unit, block int, out []float32) {
	in := api.Block(r.taken(unit, 0, block))
	// samples of units are right, and states were looked at
	b, states, cuts, _ := filter.Run(r.Units[unit].Cascade, in, r.filters[unit])
	copy(out, b[:])
	r.filters[unit] = states
	r.cuts[unit] += cuts
}

// workAll works on all blocks, alone.
func (r *round) workAll() {
	for block := range r.count {
		for _, unit := range r.order {
			r.work(unit, block)
		}
	}
}

// outputs is the blocks of each output.
func (r *round) outputs() [][]api.Block {
	var l [][]api.Block
	for _, unit := range r.ofKind(api.UnitOutput) {
		var blocks []api.Block
		for block := range r.count {
			blocks = append(blocks, api.Block(r.samplesOf(unit, block, 0)))
		}
		l = append(l, blocks)
	}
	return l
}

// allCuts is how many samples were cut.
func (r *round) allCuts() int {
	sum := 0
	for _, n := range r.cuts {
		sum += n
	}
	return sum
}

// state is the state behind all blocks, if there were so many before; it takes the lists of the round over.
func (r *round) state(before int) api.EngineState {
	s := api.EngineState{Blocks: before + r.count, Filters: r.filters}
	for _, track := range r.tracks {
		s.Past = append(s.Past, track[len(track)-api.EnginePast:])
	}
	return s
}
