package engine_test

import (
	"math"
	"slices"

	"shoebox/api"
	"shoebox/filter"
)

// What follows works things out anew, slowly, after the definitions.

// needed is the units that a unit needs.
func needed(g api.EngineGraph, unit int) []int {
	l := slices.Clone(g.Units[unit].From)
	if g.Units[unit].Stand != nobody {
		l = append(l, g.Units[unit].Stand)
	}
	return l
}

func isOrder(g api.EngineGraph, l []int) bool {
	for at, unit := range l {
		for _, need := range needed(g, unit) {
			if !slices.Contains(l[:at], need) {
				return false
			}
		}
	}
	return true
}

// slowOrder is the first order of all permutations.
func slowOrder(g api.EngineGraph) []int {
	var first []int
	permutations(len(g.Units), func(l []int) {
		if first == nil && isOrder(g, l) {
			first = l
		}
	})
	return first
}

func slowStage(g api.EngineGraph, unit int) int {
	stage := 0
	for _, need := range needed(g, unit) {
		stage = max(stage, 1+slowStage(g, need))
	}
	return stage
}

// waysTo is all ways that end at a unit.
func waysTo(g api.EngineGraph, unit int) [][]int {
	if g.Units[unit].Kind == api.UnitInput {
		return rows(list(unit))
	}
	var l [][]int
	for _, from := range g.Units[unit].From {
		for _, way := range waysTo(g, from) {
			l = append(l, append(slices.Clone(way), unit))
		}
	}
	return l
}

func lengthOf(g api.EngineGraph, way []int) int {
	length := 0
	for i, unit := range way {
		u := g.Units[unit]
		length += u.Delay
		if i > 0 {
			length += u.Align[slices.Index(u.From, way[i-1])]
		}
	}
	return length
}

// lengthsTo is the lengths of all ways that end at a unit, each once, ascending.
func lengthsTo(g api.EngineGraph, unit int) []int {
	var l []int
	for _, way := range waysTo(g, unit) {
		l = append(l, lengthOf(g, way))
	}
	slices.Sort(l)
	return slices.Compact(l)
}

// slowLatencies is those of all units, by all ways; false if they are not equal.
func slowLatencies(g api.EngineGraph) ([]int, bool) {
	var l []int
	for unit := range g.Units {
		lengths := lengthsTo(g, unit)
		if len(lengths) != 1 {
			return nil, false
		}
		l = append(l, lengths[0])
	}
	return l, true
}

// slowArrival is when what comes to a unit last comes there, if each unit waits for that.
func slowArrival(g api.EngineGraph, unit int) int {
	last := 0
	for i, from := range g.Units[unit].From {
		last = max(last, slowArrival(g, from)+g.Units[from].Delay+g.Units[unit].Align[i])
	}
	return last
}

// slowAligns is the Align of each unit of the compensated graph.
func slowAligns(g api.EngineGraph) [][]int {
	var l [][]int
	for unit, u := range g.Units {
		var aligns []int
		for _, from := range u.From {
			aligns = append(aligns, slowArrival(g, unit)-slowArrival(g, from)-g.Units[from].Delay)
		}
		l = append(l, aligns)
	}
	return l
}

// hasFailed tells whether a unit has failed in a block.
type hasFailed func(unit, block int) bool

func faulty(l []api.EngineFault) hasFailed {
	return func(unit, block int) bool {
		return slices.ContainsFunc(l, func(f api.EngineFault) bool { return f.Unit == unit && block >= f.Block })
	}
}

// slowStand is who stands in for a unit in a block.
func slowStand(g api.EngineGraph, failed hasFailed, unit, block int) int {
	if unit == nobody || !failed(unit, block) {
		return unit
	}
	return slowStand(g, failed, g.Units[unit].Stand, block)
}

func slowFed(g api.EngineGraph, failed hasFailed, unit int) bool {
	if failed(unit, 0) {
		return false
	}
	isFed := g.Units[unit].Kind == api.UnitInput
	for _, from := range g.Units[unit].From {
		who := slowStand(g, failed, from, 0)
		isFed = isFed || who != nobody && slowFed(g, failed, who)
	}
	return isFed
}

func slowWeak(g api.EngineGraph) []int {
	var weak []int
	nothing := faulty(nil)
	for unit := range g.Units {
		alone := faulty(faults(fault(unit, 0)))
		for other, u := range g.Units {
			if u.Kind == api.UnitOutput && other != unit && slowFed(g, nothing, other) && !slowFed(g, alone, other) {
				weak = append(weak, unit)
				break
			}
		}
	}
	return weak
}

// slowRun works out each sample that is asked for, and keeps it.
type slowRun struct {
	g       api.EngineGraph
	in      [][]api.Block
	failed  hasFailed
	samples map[[2]int]int
	blocks  map[[2]int]slowBlock
	cuts    int
}

// slowBlock is what a filter has behind a block.
type slowBlock struct {
	out    api.Block
	states []api.FilterState
}

func newSlowRun(g api.EngineGraph, in [][]api.Block, failed hasFailed) *slowRun {
	return &slowRun{g, in, failed, map[[2]int]int{}, map[[2]int]slowBlock{}, 0}
}

// sample is the sample of a unit at a time.
func (s *slowRun) sample(unit, time int) int {
	if time < 0 || unit == nobody {
		return 0
	}
	key := [2]int{unit, time}
	if _, ok := s.samples[key]; !ok {
		s.samples[key] = s.found(unit, time)
	}
	return s.samples[key]
}

// takenAt is what a unit takes at a time from the unit with the number i in its From.
func (s *slowRun) takenAt(unit, i, time int) int {
	u := s.g.Units[unit]
	return s.sample(u.From[i], time-u.Align[i])
}

func (s *slowRun) found(unit, time int) int {
	u := s.g.Units[unit]
	if who := slowStand(s.g, s.failed, unit, time/size); who != unit {
		return s.sample(who, time)
	}
	switch u.Kind {
	case api.UnitInput:
		channel := 0
		for _, before := range s.g.Units[:unit] {
			if before.Kind == api.UnitInput {
				channel++
			}
		}
		return int(s.in[channel][time/size][time%size])
	case api.UnitSum:
		all := 0
		for i, gain := range u.Gains {
			all += s.takenAt(unit, i, time) * gain
		}
		n := int(math.Floor(float64(all)/1000 + 0.5))
		if n > loud || n < -loud {
			s.cuts++
		}
		return min(loud, max(-loud, n))
	case api.UnitDelay:
		return s.takenAt(unit, 0, time-u.Delay)
	case api.UnitFilter:
		return int(s.filtered(unit, time/size).out[time%size])
	}
	return s.takenAt(unit, 0, time)
}

// filtered is what a filter has behind a block; while it has failed its states stay.
func (s *slowRun) filtered(unit, number int) slowBlock {
	c := s.g.Units[unit].Cascade
	if number < 0 {
		states, _ := filter.NewState(c)
		return slowBlock{states: states}
	}
	key := [2]int{unit, number}
	if b, ok := s.blocks[key]; ok {
		return b
	}
	b := s.filtered(unit, number-1)
	if !s.failed(unit, number) {
		var in api.Block
		for t := range in {
			in[t] = float32(s.takenAt(unit, 0, number*size+t))
		}
		var cuts int
		b.out, b.states, cuts, _ = filter.Run(c, in, b.states)
		s.cuts += cuts
	}
	s.blocks[key] = b
	return b
}

// all is the blocks of all outputs, and what was cut in so many blocks of all units.
func (s *slowRun) all(count int) played {
	var p played
	for unit, u := range s.g.Units {
		l := make([]api.Block, count)
		for time := range count * size {
			l[time/size][time%size] = float32(s.sample(unit, time))
		}
		if u.Kind == api.UnitOutput {
			p.out = append(p.out, l)
		}
	}
	p.cuts = s.cuts
	return p
}

// state is the state behind so many blocks, of all samples worked out before.
func (s *slowRun) state(count int) api.EngineState {
	x := api.EngineState{Blocks: count}
	for unit, u := range s.g.Units {
		var l []float32
		for time := count*size - past; time < count*size; time++ {
			l = append(l, float32(s.sample(unit, time)))
		}
		x.Past = append(x.Past, l)
		var states []api.FilterState
		if u.Kind == api.UnitFilter {
			states = s.filtered(unit, count-1).states
		}
		x.Filters = append(x.Filters, states)
	}
	return x
}
