package image

import (
	"slices"

	"shoebox/api"
)

// enterPlan is the stage of a source in the plan and an order, if none of them has an error.
func enterPlan(h api.Hall, from api.HallCorner, order int) (*stage, api.Errno) {
	g, e := visit(h)
	if e != api.OK {
		return nil, e
	}
	if e := firstError(g.covered(from), ordered(order)); e != api.OK {
		return nil, e
	}
	return g, api.OK
}

// Beams returns the beams of a source, in their order.
func Beams(h api.Hall, from api.HallCorner, order int) ([]api.ImageBeam, api.Errno) {
	g, e := enterPlan(h, from, order)
	if e != api.OK {
		return nil, e
	}
	return g.beams(from, order), api.OK
}

func (g *stage) beams(from api.HallCorner, order int) []api.ImageBeam {
	var all []api.ImageBeam
	last := g.around(from)
	for range order {
		all = append(all, last...)
		var next []api.ImageBeam
		for _, b := range last {
			next = append(next, g.reflected(b)...)
		}
		last = next
	}
	return append(all, last...)
}

// around is the beams without walls.
func (g *stage) around(at api.HallCorner) []api.ImageBeam {
	turns := g.turnsSeen(at, noWall, func(api.ImageTurn) bool { return true })
	slices.SortFunc(turns, roundFrom(api.ImageTurn{X: 1}))
	return g.fan(nil, at, append(turns, turns[0]))
}

// reflected is the beams behind a beam.
func (g *stage) reflected(b api.ImageBeam) []api.ImageBeam {
	plane := g.planes[b.Next]
	at := g.mirroredIn(b.Next, b.At)
	first, last := mirroredTurn(plane, b.To), mirroredTurn(plane, b.From)
	turns := g.turnsSeen(at, b.Next, func(t api.ImageTurn) bool { return isBetween(first, last, t) })
	turns = append(turns, first, last)
	slices.SortFunc(turns, roundFrom(first))
	return g.fan(append(slices.Clone(b.Walls), b.Next), at, turns)
}

// turnsSeen is the turns that are asked for in which a corner is seen from a place, beyond the last wall. An image may lie in a corner, which is ahead of its last wall then.
func (g *stage) turnsSeen(at api.HallCorner, last int, isAsked func(api.ImageTurn) bool) []api.ImageTurn {
	var turns []api.ImageTurn
	for _, c := range g.Corners {
		if c == at {
			continue
		}
		t, steps := turnTo(at, c)
		if isAsked(t) && g.sees(ray{at, t, last}, steps) {
			turns = append(turns, t)
		}
	}
	return turns
}

// fan is the beams between each turn and the next one. All rays of a beam first meet one wall, so one of them tells it.
func (g *stage) fan(walls []int, at api.HallCorner, turns []api.ImageTurn) []api.ImageBeam {
	last := lastOf(walls)
	var beams []api.ImageBeam
	for i, to := range turns[1:] {
		a := turns[i]
		middle := api.ImageTurn{X: a.X + to.X, Y: a.Y + to.Y}
		beams = append(beams, api.ImageBeam{
			Walls: slices.Clone(walls),
			At:    at,
			From:  a,
			To:    to,
			Next:  g.firstHit(ray{at, middle, last}).wall,
		})
	}
	return beams
}

// CheckBeams accepts the beams of a source, and returns how many they are.
func CheckBeams(h api.Hall, from api.HallCorner, order int, l []api.ImageBeam) (int, api.Errno) {
	g, e := enterPlan(h, from, order)
	if e != api.OK {
		return 0, e
	}
	if !slices.EqualFunc(l, g.beams(from, order), isSame) {
		return 0, api.ErrProof
	}
	return len(l), api.OK
}

func isSame(a, b api.ImageBeam) bool {
	return slices.Equal(a.Walls, b.Walls) && a.At == b.At && a.From == b.From && a.To == b.To && a.Next == b.Next
}

// Reached returns the walls of each beam that reaches the seat of an ask in the plan.
func Reached(h api.Hall, x api.ImageAsk) ([][]int, api.Errno) {
	g, e := attend(h, firstSetting(h), x)
	if e != api.OK {
		return nil, e
	}
	var lists [][]int
	isTold := map[walk]bool{}
	for _, b := range g.beams(floorOf(x.From), x.Order) {
		if w := walkOf(b.Walls); g.reaches(b, floorOf(x.To)) && !isTold[w] {
			isTold[w] = true
			lists = append(lists, b.Walls)
		}
	}
	return lists, api.OK
}

// reaches tells whether a beam reaches a place of the plan.
func (g *stage) reaches(b api.ImageBeam, to api.HallCorner) bool {
	if to == b.At {
		return false
	}
	t, _ := turnTo(b.At, to)
	if !isBetween(b.From, b.To, t) || !g.isBeside(b.Next, onFloor(b.At), onFloor(to)) {
		return false
	}
	last := lastOf(b.Walls)
	return last == noWall || g.isAcross(last, onFloor(b.At), onFloor(to))
}
