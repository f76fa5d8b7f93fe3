package image_test

import (
	"math/big"
	"math/rand"
	"slices"

	"shoebox/api"
	"shoebox/hall"
	"shoebox/image"
)

// Rays and beams are held against slow ones, in fractions, that follow the chapter's definitions directly: rays are reflected in the hall itself, and walls are met without their planes.

// pair is a place or a direction of the plan, in fractions.
type pair [2]*big.Rat

func pairOf(x, y int) pair               { return pair{number(x), number(y)} }
func (p pair) minus(q pair) pair         { return pair{less(p[0], q[0]), less(p[1], q[1])} }
func (p pair) cross(q pair) *big.Rat     { return less(times(p[0], q[1]), times(p[1], q[0])) }
func (p pair) dot(q pair) *big.Rat       { return plus(times(p[0], q[0]), times(p[1], q[1])) }
func (p pair) scaled(n *big.Rat) pair    { return pair{times(p[0], n), times(p[1], n)} }
func (p pair) add(q pair) pair           { return pair{plus(p[0], q[0]), plus(p[1], q[1])} }
func quotient(a, b *big.Rat) *big.Rat    { return new(big.Rat).Quo(a, b) }
func isWithin(n *big.Rat, a, b int) bool { return n.Cmp(number(a)) >= 0 && n.Cmp(number(b)) <= 0 }
func cornerPair(c api.HallCorner) pair   { return pairOf(c.X, c.Y) }
func turnPair(t api.ImageTurn) pair      { return pairOf(t.X, t.Y) }
func crossOf(a, b api.ImageTurn) int     { return a.X*b.Y - a.Y*b.X }
func wallEnds(h api.Hall, n int) [2]pair {
	return [2]pair{cornerPair(h.Corners[n]), cornerPair(h.Corners[(n+1)%len(h.Corners)])}
}
func lineShare(p, d, a, e pair) *big.Rat   { return quotient(a.minus(p).cross(e), d.cross(e)) }
func isParallel(d, e pair) bool            { return d.cross(e).Sign() == 0 }
func middleOf(a, b api.ImageTurn) pair     { return pairOf(a.X+b.X, a.Y+b.Y) }
func cornerOf(at api.Place) api.HallCorner { return corner(at.X, at.Y) }

// met is where a ray meets a wall: so many times its direction ahead.
type met struct {
	share *big.Rat
	wall  int
	isEnd bool
}

// meetSlowly is the first wall that a ray meets behind a share of its direction.
func meetSlowly(h api.Hall, p, d pair, least *big.Rat) met {
	var first met
	for n := range h.Walls {
		ends := wallEnds(h, n)
		e := ends[1].minus(ends[0])
		if isParallel(d, e) {
			continue
		}
		share, along := lineShare(p, d, ends[0], e), quotient(ends[0].minus(p).cross(d), d.cross(e))
		if share.Cmp(least) <= 0 || !isWithin(along, 0, 1) {
			continue
		}
		if first.share == nil || share.Cmp(first.share) < 0 {
			first = met{share, n, along.Sign() == 0 || along.Cmp(number(1)) == 0}
		}
	}
	return first
}

// reflectedPair is a direction behind its reflection in a wall.
func reflectedPair(h api.Hall, wall int, d pair) pair {
	ends := wallEnds(h, wall)
	e := ends[1].minus(ends[0])
	return e.scaled(quotient(times(number(2), d.dot(e)), e.dot(e))).minus(d)
}

// followSlowly reflects a ray in the hall; false if it breaks.
func followSlowly(h api.Hall, from api.HallCorner, t api.ImageTurn, order int) ([]int, bool) {
	p, d := cornerPair(from), turnPair(t)
	var walls []int
	for range order {
		m := meetSlowly(h, p, d, number(0))
		if m.isEnd {
			return nil, false
		}
		walls = append(walls, m.wall)
		p, d = p.add(d.scaled(m.share)), reflectedPair(h, m.wall, d)
	}
	return walls, true
}

func whole(n *big.Rat) int {
	if !n.IsInt() {
		panic("no whole number")
	}
	return int(n.Num().Int64())
}

func reflectedTurn(h api.Hall, wall int, t api.ImageTurn) api.ImageTurn {
	d := reflectedPair(h, wall, turnPair(t))
	return turn(whole(d[0]), whole(d[1]))
}

func imageIn(h api.Hall, wall int, c api.HallCorner) api.HallCorner {
	ends := wallEnds(h, wall)
	d := reflectedPair(h, wall, cornerPair(c).minus(ends[0])).add(ends[0])
	return corner(whole(d[0]), whole(d[1]))
}

// begin is the share of a direction behind which a ray from an image is beyond its last wall.
func begin(h api.Hall, walls []int, p, d pair) *big.Rat {
	if len(walls) == 0 {
		return number(0)
	}
	ends := wallEnds(h, walls[len(walls)-1])
	return lineShare(p, d, ends[0], ends[1].minus(ends[0]))
}

// reducedTurn is a direction without a common divisor.
func reducedTurn(x, y int) api.ImageTurn {
	d := new(big.Int).GCD(nil, nil, big.NewInt(int64(max(x, -x))), big.NewInt(int64(max(y, -y))))
	return turn(x/int(d.Int64()), y/int(d.Int64()))
}

func seenTurns(h api.Hall, walls []int, at api.HallCorner, isAsked func(api.ImageTurn) bool) []api.ImageTurn {
	var turns []api.ImageTurn
	for _, c := range h.Corners {
		if c == at {
			continue
		}
		t := reducedTurn(c.X-at.X, c.Y-at.Y)
		if !isAsked(t) {
			continue
		}
		p, d := cornerPair(at), cornerPair(c).minus(cornerPair(at))
		if m := meetSlowly(h, p, d, begin(h, walls, p, d)); m.share.Cmp(number(1)) == 0 {
			turns = append(turns, t)
		}
	}
	return turns
}

// sectorsSlowly is the beams between turns that follow each other.
func sectorsSlowly(h api.Hall, walls []int, at api.HallCorner, turns []api.ImageTurn) []api.ImageBeam {
	var l []api.ImageBeam
	for i := range len(turns) - 1 {
		p, d := cornerPair(at), middleOf(turns[i], turns[i+1])
		m := meetSlowly(h, p, d, begin(h, walls, p, d))
		if m.isEnd {
			panic("a corner within a beam")
		}
		l = append(l, api.ImageBeam{Walls: walls, At: at, From: turns[i], To: turns[i+1], Next: m.wall})
	}
	return l
}

func isUpper(t api.ImageTurn) bool { return t.Y > 0 || t.Y == 0 && t.X > 0 }

// beamsSlowly is the beams of a source.
func beamsSlowly(h api.Hall, from api.HallCorner, order int) []api.ImageBeam {
	turns := seenTurns(h, nil, from, func(api.ImageTurn) bool { return true })
	slices.SortFunc(turns, func(a, b api.ImageTurn) int {
		if isUpper(a) != isUpper(b) {
			if isUpper(a) {
				return -1
			}
			return 1
		}
		return -crossOf(a, b)
	})
	level := sectorsSlowly(h, nil, from, append(turns, turns[0]))
	all := slices.Clone(level)
	for range order {
		var next []api.ImageBeam
		for _, b := range level {
			walls := append(slices.Clone(b.Walls), b.Next)
			at := imageIn(h, b.Next, b.At)
			first, last := reflectedTurn(h, b.Next, b.To), reflectedTurn(h, b.Next, b.From)
			cuts := seenTurns(h, walls, at, func(t api.ImageTurn) bool { return crossOf(first, t) > 0 && crossOf(t, last) > 0 })
			cuts = append(cuts, first, last)
			slices.SortFunc(cuts, func(a, b api.ImageTurn) int { return -crossOf(a, b) })
			next = append(next, sectorsSlowly(h, walls, at, cuts)...)
		}
		all, level = append(all, next...), next
	}
	return all
}

// reachesSlowly tells whether a beam reaches a place: the way there from its image crosses the last wall ahead of it, and the next one behind it.
func reachesSlowly(h api.Hall, b api.ImageBeam, to api.HallCorner) bool {
	if b.At == to {
		return false
	}
	t := reducedTurn(to.X-b.At.X, to.Y-b.At.Y)
	if crossOf(b.From, t) <= 0 || crossOf(t, b.To) <= 0 {
		return false
	}
	p, d := cornerPair(b.At), cornerPair(to).minus(cornerPair(b.At))
	next := begin(h, []int{b.Next}, p, d)
	return begin(h, b.Walls, p, d).Cmp(number(1)) < 0 && next.Cmp(number(1)) > 0
}

func runsAlong(b api.ImageBeam, to api.HallCorner) bool {
	if b.At == to {
		return false
	}
	t := reducedTurn(to.X-b.At.X, to.Y-b.At.Y)
	return t == b.From || t == b.To
}

// somewhere is a place of the plan.
func somewhere(r *rand.Rand, h api.Hall) api.HallCorner {
	least, most := h.Corners[0], h.Corners[0]
	for _, c := range h.Corners {
		least = corner(min(least.X, c.X), min(least.Y, c.Y))
		most = corner(max(most.X, c.X), max(most.Y, c.Y))
	}
	for {
		c := corner(least.X+r.Intn(most.X-least.X), least.Y+r.Intn(most.Y-least.Y))
		if in, _ := hall.IsInside(h, at(c.X, c.Y, 1)); in {
			return c
		}
	}
}

// wallsOnly is the lists of walls of the paths that meet walls alone.
func wallsOnly(h api.Hall, x api.ImageAsk) [][]int {
	l, _ := image.Paths(h, api.HallSetting{}, x)
	var walls [][]int
	for _, p := range l {
		if !slices.ContainsFunc(p.Surfaces, func(n int) bool { return n >= len(h.Walls) }) {
			walls = append(walls, p.Surfaces)
		}
	}
	return walls
}
