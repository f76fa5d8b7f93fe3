package hall

import "shoebox/api"

// edge is a straight line of the plan from a corner to another one, parallel to an axis or diagonal.
type edge struct{ from, to api.HallCorner }

func (e edge) isNothing() bool { return e.from == e.to }

// isRight tells whether the edge is parallel to an axis or diagonal.
func (e edge) isRight() bool {
	x, y := size(e.to.X-e.from.X), size(e.to.Y-e.from.Y)
	return x == 0 || y == 0 || x == y
}

func (e edge) isDiagonal() bool {
	return e.from.X != e.to.X && e.from.Y != e.to.Y
}

// reach is the length along the axis on which it is not nothing; of a diagonal edge it is that along each one.
func (e edge) reach() int {
	return max(size(e.to.X-e.from.X), size(e.to.Y-e.from.Y))
}

func (e edge) plane() api.HallPlane {
	switch {
	case e.from.X == e.to.X:
		return api.HallPlane{Kind: api.PlaneX, At: e.from.X}
	case e.from.Y == e.to.Y:
		return api.HallPlane{Kind: api.PlaneY, At: e.from.Y}
	case e.to.X-e.from.X == e.to.Y-e.from.Y:
		return api.HallPlane{Kind: api.PlaneLess, At: e.from.X - e.from.Y}
	}
	return api.HallPlane{Kind: api.PlaneSum, At: e.from.X + e.from.Y}
}

func (e edge) way() api.HallWay {
	return api.HallWay{From: cornerPoint(e.from), To: cornerPoint(e.to)}
}

// spans tells of a point on the line of the edge whether it lies on the edge, with its ends.
func (e edge) spans(p api.HallPoint) bool {
	return min(e.from.X, e.to.X)*p.Den <= p.X && p.X <= max(e.from.X, e.to.X)*p.Den &&
		min(e.from.Y, e.to.Y)*p.Den <= p.Y && p.Y <= max(e.from.Y, e.to.Y)*p.Den
}

// holds tells whether a point lies on the edge, with its ends, seen from above.
func (e edge) holds(p api.HallPoint) bool {
	return offPlane(e.plane(), p) == 0 && e.spans(p)
}

// holdsWell is spans without the ends.
func (e edge) holdsWell(p api.HallPoint) bool {
	return e.spans(p) && !isAt(e.from, p) && !isAt(e.to, p)
}

func isAt(c api.HallCorner, p api.HallPoint) bool {
	return c.X*p.Den == p.X && c.Y*p.Den == p.Y
}

// blocks tells whether a way goes through the line of the edge, strictly between its own ends, in a point of the edge, seen from above. A way along this line need not be looked at: it comes to the edge only through an end, where a neighbour blocks it, or lies on edges as a whole, and so does its middle.
func (e edge) blocks(w api.HallWay) bool {
	p, ok := meet(e.plane(), w)
	return ok && e.spans(p)
}

// sheet is the rectangle of a canopy, from the corner with the least numbers to that with the greatest ones.
type sheet struct{ low, high api.HallCorner }

func sheetOf(c api.HallCanopy) sheet {
	return sheet{
		low:  api.HallCorner{X: min(c.From.X, c.To.X), Y: min(c.From.Y, c.To.Y)},
		high: api.HallCorner{X: max(c.From.X, c.To.X), Y: max(c.From.Y, c.To.Y)},
	}
}

// rims yields the four edges of the sheet, each one from the end of the one before.
func (s sheet) rims(yield func(edge) bool) {
	corners := [...]api.HallCorner{s.low, {X: s.high.X, Y: s.low.Y}, s.high, {X: s.low.X, Y: s.high.Y}}
	for i, from := range corners {
		if !yield(edge{from, corners[(i+1)%len(corners)]}) {
			return
		}
	}
}

func (s sheet) area() int {
	return (s.high.X - s.low.X) * (s.high.Y - s.low.Y)
}

// holds tells whether a point lies on the sheet, with its rims, seen from above.
func (s sheet) holds(p api.HallPoint) bool {
	return s.low.X*p.Den <= p.X && p.X <= s.high.X*p.Den && s.low.Y*p.Den <= p.Y && p.Y <= s.high.Y*p.Den
}

// holdsWell is holds without the rims.
func (s sheet) holdsWell(p api.HallPoint) bool {
	return s.low.X*p.Den < p.X && p.X < s.high.X*p.Den && s.low.Y*p.Den < p.Y && p.Y < s.high.Y*p.Den
}

// blocks tells whether a point strictly between the ends of a way lies on the sheet in this plane.
func (s sheet) blocks(plane api.HallPlane, w api.HallWay) bool {
	if offPlane(plane, w.From) != 0 || offPlane(plane, w.To) != 0 {
		p, ok := meet(plane, w)
		return ok && s.holds(p)
	}
	// a way in the plane goes through a rim, or lies on the sheet or beside it as its middle does
	for rim := range s.rims {
		if rim.blocks(w) {
			return true
		}
	}
	return s.holds(middle(w))
}
