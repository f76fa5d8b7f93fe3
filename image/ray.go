package image

import (
	"iter"

	"shoebox/api"
	"shoebox/hall"
)

// noWall is the last wall of a ray that was not reflected.
const noWall = -1

// lastOf is the last one of the walls that were met.
func lastOf(walls []int) int {
	if len(walls) == 0 {
		return noWall
	}
	return walls[len(walls)-1]
}

// ray goes from a place of the plan, or from an image behind its last wall, in a direction.
type ray struct {
	at   api.HallCorner
	turn api.ImageTurn
	last int
}

// share is how often a ray makes its turn to come somewhere: a fraction, not in lowest terms, with den above 0.
type share struct{ num, den int }

func (s share) isLess(t share) bool { return s.num*t.den < t.num*s.den }

// hit is where a ray meets a wall.
type hit struct {
	share
	wall  int
	isEnd bool
}

// toLine is where a ray crosses the line of a wall, ahead of its place; false if it does not, or runs in it.
func (g *stage) toLine(r ray, wall int) (share, bool) {
	off := g.off(wall, onFloor(r.at))
	pace := level(g.planes[wall].Kind, api.Place{X: r.turn.X, Y: r.turn.Y})
	if pace < 0 {
		off, pace = -off, -pace
	}
	return share{-off, pace}, off < 0 && pace > 0
}

// toWall is where a ray meets a wall, whatever lies ahead. One in whose line it runs need not be met: its neighbours have the ends.
func (g *stage) toWall(r ray, wall int) (hit, bool) {
	s, isAhead := g.toLine(r, wall)
	if !isAhead {
		return hit{}, false
	}
	a, b := g.Corners[wall], g.Corners[(wall+1)%len(g.Corners)]
	x, y := r.at.X*s.den+r.turn.X*s.num, r.at.Y*s.den+r.turn.Y*s.num
	isEnd := func(c api.HallCorner) bool { return x == c.X*s.den && y == c.Y*s.den }
	isOn := min(a.X, b.X)*s.den <= x && x <= max(a.X, b.X)*s.den &&
		min(a.Y, b.Y)*s.den <= y && y <= max(a.Y, b.Y)*s.den
	return hit{s, wall, isEnd(a) || isEnd(b)}, isOn
}

// hits yields where a ray meets walls, in the order of the walls.
func (g *stage) hits(r ray) iter.Seq[hit] {
	return func(yield func(hit) bool) {
		for wall := range g.Walls {
			if h, isMet := g.toWall(r, wall); isMet && !yield(h) {
				return
			}
		}
	}
}

// firstHit is where a ray first meets a wall beyond the line of its last one.
func (g *stage) firstHit(r ray) hit {
	begin := share{0, 1}
	if r.last != noWall {
		begin, _ = g.toLine(r, r.last)
	}
	var first hit
	isFound := false
	for h := range g.hits(r) {
		if begin.isLess(h.share) && (!isFound || h.isLess(first.share)) {
			first, isFound = h, true
		}
	}
	return first
}

// sees tells whether the first that a ray meets is what lies behind so many of its turns.
func (g *stage) sees(r ray, steps int) bool {
	h := g.firstHit(r)
	return h.num == steps*h.den
}

// mirroredIn is the image of a place of the plan in the line of a wall.
func (g *stage) mirroredIn(wall int, at api.HallCorner) api.HallCorner {
	image, _ := hall.MirrorIn(g.planes[wall], onFloor(at))
	return floorOf(image)
}

// Follow returns the first walls that a ray meets, as many as order.
func Follow(h api.Hall, from api.HallCorner, t api.ImageTurn, order int) ([]int, api.Errno) {
	g, e := visit(h)
	if e != api.OK {
		return nil, e
	}
	if e := firstError(g.covered(from), turning(t), ordered(order)); e != api.OK {
		return nil, e
	}
	var walls []int
	r := ray{from, t, noWall}
	for range order {
		h := g.firstHit(r)
		if h.isEnd {
			return nil, api.ErrBreak
		}
		walls = append(walls, h.wall)
		r = ray{g.mirroredIn(h.wall, r.at), mirroredTurn(g.planes[h.wall], r.turn), h.wall}
	}
	return walls, api.OK
}
