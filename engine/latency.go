package engine

import (
	"slices"

	"shoebox/api"
)

// arrivals is the latencies of what a unit takes, by those of the units that it takes from; an input takes nothing.
func (g *graph) arrivals(unit int, latencies []int) []int {
	u := g.Units[unit]
	var l []int
	for i, from := range u.From {
		l = append(l, latencies[from]+u.Align[i])
	}
	return l
}

// spread is the least and the greatest number of a list, or 0 and 0 if it has none.
func spread(l []int) (int, int) {
	if len(l) == 0 {
		return 0, 0
	}
	return slices.Min(l), slices.Max(l)
}

// latencies is those of all units, and nobody; or those up to the first unit in the order that has none, and this unit.
func (g *graph) latencies() ([]int, int) {
	l := make([]int, len(g.Units))
	for _, unit := range g.order {
		least, greatest := spread(g.arrivals(unit, l))
		if least != greatest {
			return l, unit
		}
		l[unit] = least + g.Units[unit].Delay
	}
	return l, nobody
}

// Latencies returns the latencies of all units of a graph.
func Latencies(g api.EngineGraph) ([]int, api.Errno) {
	v, e := visit(g)
	if e != api.OK {
		return nil, e
	}
	l, without := v.latencies()
	if without != nobody {
		return nil, api.ErrClash
	}
	return l, api.OK
}

// CheckLatencies accepts the latencies of all units of a graph.
func CheckLatencies(g api.EngineGraph, l []int) api.Errno {
	v, e := visit(g)
	if e != api.OK {
		return e
	}
	if len(l) != len(v.Units) {
		return api.ErrShape
	}
	for unit, u := range v.Units {
		least, greatest := spread(v.arrivals(unit, l))
		if least != greatest || l[unit] != least+u.Delay {
			return api.ErrProof
		}
	}
	return api.OK
}

// wayTo is a way that ends at a unit.
func (g *graph) wayTo(unit int) []int {
	way := []int{unit}
	for len(g.Units[unit].From) > 0 {
		unit = g.Units[unit].From[0]
		way = append(way, unit)
	}
	slices.Reverse(way)
	return way
}

// Unequal returns two ways of a graph that end at the same unit with different lengths.
func Unequal(g api.EngineGraph) ([2][]int, api.Errno) {
	v, e := visit(g)
	if e != api.OK {
		return [2][]int{}, e
	}
	l, without := v.latencies()
	if without == nobody {
		return [2][]int{}, api.ErrNone
	}
	// up to the units that this one takes from, all ways to a unit are as long as its latency
	arrivals := v.arrivals(without, l)
	least, greatest := spread(arrivals)
	var ways [2][]int
	for i, arrival := range [2]int{least, greatest} {
		from := v.Units[without].From[slices.Index(arrivals, arrival)]
		ways[i] = append(v.wayTo(from), without)
	}
	return ways, api.OK
}

// lengthOf is the length of a way, or why it is none.
func (g *graph) lengthOf(way []int) (int, api.Errno) {
	if len(way) == 0 || len(way) > len(g.Units) {
		return 0, api.ErrShape
	}
	length := 0
	for i, unit := range way {
		if !g.has(unit) {
			return 0, api.ErrMissing
		}
		u := g.Units[unit]
		if i == 0 {
			if u.Kind != api.UnitInput {
				return 0, api.ErrKind
			}
			continue
		}
		at := slices.Index(u.From, way[i-1])
		if at < 0 {
			return 0, api.ErrOpen
		}
		length += u.Align[at] + u.Delay
	}
	return length, api.OK
}

// CheckUnequal accepts two ways that differ, and returns their lengths.
func CheckUnequal(g api.EngineGraph, w [2][]int) ([2]int, api.Errno) {
	v, e := visit(g)
	if e != api.OK {
		return [2]int{}, e
	}
	var lengths [2]int
	for i, way := range w {
		if lengths[i], e = v.lengthOf(way); e != api.OK {
			return [2]int{}, e
		}
	}
	switch {
	case w[0][len(w[0])-1] != w[1][len(w[1])-1]:
		return [2]int{}, api.ErrClash
	case lengths[0] == lengths[1]:
		return [2]int{}, api.ErrProof
	}
	return lengths, api.OK
}

// copied is a graph that shares no memory with the given one.
func copied(g api.EngineGraph) api.EngineGraph {
	g.Units = slices.Clone(g.Units)
	for i := range g.Units {
		u := &g.Units[i]
		u.From, u.Align, u.Gains = slices.Clone(u.From), slices.Clone(u.Align), slices.Clone(u.Gains)
		u.Cascade = slices.Clone(u.Cascade)
	}
	return g
}

// Compensated returns a graph in which each unit waits for what arrives last.
func Compensated(g api.EngineGraph) (api.EngineGraph, api.Errno) {
	v, e := visit(g)
	if e != api.OK {
		return api.EngineGraph{}, e
	}
	c := copied(g)
	latencies := make([]int, len(c.Units))
	for _, unit := range v.order {
		u := c.Units[unit]
		arrivals := v.arrivals(unit, latencies)
		_, greatest := spread(arrivals)
		for i, arrival := range arrivals {
			u.Align[i] += greatest - arrival
		}
		if !areWithin(u.Align, 0, api.MaxEngineDelay) {
			return api.EngineGraph{}, api.ErrLarge
		}
		latencies[unit] = greatest + u.Delay
	}
	return c, api.OK
}
