package hall

import "shoebox/api"

// size is how far a number is from 0. The least int has no size: only numbers that were found in range come here.
func size(n int) int { return max(n, -n) }

// beyond tells whether one of the numbers is greater in size than the limit.
func beyond(limit int, numbers ...int) bool {
	for _, n := range numbers {
		if n > limit || n < -limit {
			return true
		}
	}
	return false
}

// divisor is the greatest common one of a number above 0 and others. Remainders are less in size than the number, so that even the least int is taken.
func divisor(d int, numbers ...int) int {
	for _, n := range numbers {
		for n%d != 0 {
			d, n = size(n%d), d
		}
	}
	return d
}

// lowest is a point in lowest terms.
func lowest(p api.HallPoint) api.HallPoint {
	d := divisor(p.Den, p.X, p.Y, p.Z)
	return api.HallPoint{X: p.X / d, Y: p.Y / d, Z: p.Z / d, Den: p.Den / d}
}

func pointError(p api.HallPoint) api.Errno {
	switch {
	case p.Den <= 0 || divisor(p.Den, p.X, p.Y, p.Z) > 1:
		return api.ErrForm
	case p.Den > api.MaxHallDen || beyond(api.MaxPlace*p.Den, p.X, p.Y, p.Z):
		return api.ErrRange
	}
	return api.OK
}

func placeError(at api.Place) api.Errno {
	if beyond(api.MaxHallImage, at.X, at.Y, at.Z) {
		return api.ErrRange
	}
	return api.OK
}

func pointOf(at api.Place) api.HallPoint {
	return api.HallPoint{X: at.X, Y: at.Y, Z: at.Z, Den: 1}
}

// cornerPoint is a corner as a point. Questions about the plan alone do not look at its Z.
func cornerPoint(c api.HallCorner) api.HallPoint {
	return api.HallPoint{X: c.X, Y: c.Y, Den: 1}
}

// middle is the point halfway, not in lowest terms.
func middle(w api.HallWay) api.HallPoint {
	a, b := w.From, w.To
	return api.HallPoint{
		X:   a.X*b.Den + b.X*a.Den,
		Y:   a.Y*b.Den + b.Y*a.Den,
		Z:   a.Z*b.Den + b.Z*a.Den,
		Den: 2 * a.Den * b.Den,
	}
}

// offPlane is 0 for the points of a plane, and has different signs on its two sides: times the same number, the distance from it.
func offPlane(p api.HallPlane, at api.HallPoint) int {
	value := 0
	switch p.Kind {
	case api.PlaneX:
		value = at.X
	case api.PlaneY:
		value = at.Y
	case api.PlaneZ:
		value = at.Z
	case api.PlaneSum:
		value = at.X + at.Y
	case api.PlaneLess:
		value = at.X - at.Y
	}
	return value - p.At*at.Den
}

// meet is the one point, strictly between its ends, in which a way goes through a plane, not in lowest terms; false if there is none.
//
// With ends of at most MaxPlace times MaxHallDen in size both products are at most 10^18, and so their difference does not overflow; images are greater, but have the denominator 1.
func meet(p api.HallPlane, w api.HallWay) (api.HallPoint, bool) {
	a, b := offPlane(p, w.From), offPlane(p, w.To)
	if a == 0 || b == 0 || (a < 0) == (b < 0) {
		return api.HallPoint{}, false
	}
	if a < 0 {
		a, b = -a, -b
	}
	return api.HallPoint{
		X:   w.To.X*a - w.From.X*b,
		Y:   w.To.Y*a - w.From.Y*b,
		Z:   w.To.Z*a - w.From.Z*b,
		Den: w.To.Den*a - w.From.Den*b,
	}, true
}
