package engine

import (
	"iter"

	"shoebox/api"
)

// graph is a right graph without a circle, and its first order.
type graph struct {
	api.EngineGraph
	order []int
}

// visit is a graph that is worked with, if it is right and has no circle.
func visit(given api.EngineGraph) (*graph, api.Errno) {
	if _, e := CheckGraph(given); e != api.OK {
		return nil, e
	}
	g := &graph{EngineGraph: given}
	g.order = g.firstOrder()
	if len(g.order) < len(g.Units) {
		return nil, api.ErrCycle
	}
	return g, api.OK
}

// has tells whether there is a unit with this number.
func (g *graph) has(unit int) bool { return isWithin(unit, 0, len(g.Units)-1) }

// needs yields the units that a unit needs.
func (g *graph) needs(unit int) iter.Seq[int] {
	return func(yield func(int) bool) {
		u := g.Units[unit]
		for _, from := range u.From {
			if !yield(from) {
				return
			}
		}
		if u.Stand != nobody {
			yield(u.Stand)
		}
	}
}

// isReady tells whether all that a unit needs stood before.
func (g *graph) isReady(unit int, stood []bool) bool {
	for need := range g.needs(unit) {
		if !stood[need] {
			return false
		}
	}
	return true
}

// firstReady is the least unit that did not stand before, but all that it needs did, or nobody.
func (g *graph) firstReady(stood []bool) int {
	for unit := range g.Units {
		if !stood[unit] && g.isReady(unit, stood) {
			return unit
		}
	}
	return nobody
}

// firstOrder is the lexicographically first order; units of a circle, and those that need them, are missing.
func (g *graph) firstOrder() []int {
	var order []int
	stood := make([]bool, len(g.Units))
	for unit := g.firstReady(stood); unit != nobody; unit = g.firstReady(stood) {
		order = append(order, unit)
		stood[unit] = true
	}
	return order
}

// ofKind is the numbers of the units of a kind: of inputs and outputs, the units of the channels.
func (g *graph) ofKind(kind int) []int {
	var l []int
	for i, u := range g.Units {
		if u.Kind == kind {
			l = append(l, i)
		}
	}
	return l
}

// Order returns the lexicographically first order of a graph.
func Order(g api.EngineGraph) ([]int, api.Errno) {
	v, e := visit(g)
	if e != api.OK {
		return nil, e
	}
	return v.order, api.OK
}

// CheckOrder accepts orders of a graph.
func CheckOrder(g api.EngineGraph, l []int) api.Errno {
	v, e := visit(g)
	if e != api.OK {
		return e
	}
	if len(l) != len(v.Units) {
		return api.ErrShape
	}
	stood := make([]bool, len(v.Units))
	for _, unit := range l {
		switch {
		case !v.has(unit):
			return api.ErrMissing
		case stood[unit]:
			return api.ErrDouble
		case !v.isReady(unit, stood):
			return api.ErrOrder
		}
		stood[unit] = true
	}
	return api.OK
}

// Stages returns the units of each stage.
func Stages(g api.EngineGraph) ([][]int, api.Errno) {
	v, e := visit(g)
	if e != api.OK {
		return nil, e
	}
	stageOf := make([]int, len(v.Units))
	for _, unit := range v.order {
		for need := range v.needs(unit) {
			stageOf[unit] = max(stageOf[unit], stageOf[need]+1)
		}
	}
	var stages [][]int
	for unit, stage := range stageOf {
		for len(stages) <= stage {
			stages = append(stages, nil)
		}
		stages[stage] = append(stages[stage], unit)
	}
	return stages, api.OK
}
