package engine

import (
	"slices"
	"sync"

	"shoebox/api"
)

// dealError is the first error of a deal.
func (g *graph) dealError(deal [][]int) api.Errno {
	switch {
	case len(deal) == 0:
		return api.ErrShape
	case len(deal) > api.MaxEngineDeal:
		return api.ErrLarge
	}
	isDealt := make([]bool, len(g.Units))
	for _, units := range deal {
		for _, unit := range units {
			switch {
			case !g.has(unit):
				return api.ErrMissing
			case isDealt[unit]:
				return api.ErrDouble
			}
			isDealt[unit] = true
		}
	}
	if slices.Contains(isDealt, false) {
		return api.ErrGap
	}
	return api.OK
}

// CheckDeal accepts deals of a graph, and returns how many workers have a unit.
func CheckDeal(g api.EngineGraph, deal [][]int) (int, api.Errno) {
	v, e := visit(g)
	if e == api.OK {
		e = v.dealError(deal)
	}
	if e != api.OK {
		return 0, e
	}
	workers := 0
	for _, units := range deal {
		if len(units) > 0 {
			workers++
		}
	}
	return workers, api.OK
}

// signals is, for each block and unit, a channel that is closed when the unit has worked on the block.
func (r *round) signals() [][]chan struct{} {
	var done [][]chan struct{}
	for range r.count {
		var l []chan struct{}
		for range r.Units {
			l = append(l, make(chan struct{}))
		}
		done = append(done, l)
	}
	return done
}

// inOrder is some units in the order of all.
func (g *graph) inOrder(units []int) []int {
	var l []int
	for _, unit := range g.order {
		if slices.Contains(units, unit) {
			l = append(l, unit)
		}
	}
	return l
}

// workDealt works on all blocks with a worker for each list of units. All of them keep to one order, so that the first work that is not done yet never waits for other work.
func (r *round) workDealt(deal [][]int) {
	done := r.signals()
	var workers sync.WaitGroup
	for _, units := range deal {
		mine := r.inOrder(units)
		workers.Add(1)
		go func() {
			defer workers.Done()
			for block := range r.count {
				for _, unit := range mine {
					for need := range r.needs(unit) {
						<-done[block][need]
					}
					r.work(unit, block)
					close(done[block][unit])
				}
			}
		}()
	}
	workers.Wait()
}

// Dealt returns what Run does, each unit being worked on by its worker.
func Dealt(g api.EngineGraph, deal [][]int, x api.EngineTape) ([][]api.Block, int, api.Errno) {
	v, e := visit(g)
	if e == api.OK {
		e = v.dealError(deal)
	}
	if e != api.OK {
		return nil, 0, e
	}
	return v.runTape(x, func(r *round) { r.workDealt(deal) })
}
