package image

import (
	"cmp"

	"shoebox/api"
)

// maxTurn is the greatest size of the numbers of a turn.
const maxTurn = 100000

// divisor is the greatest common one of two numbers, perhaps below 0; 0 of two zeros.
func divisor(a, b int) int {
	for b != 0 {
		a, b = b, a%b
	}
	return a
}

// turning is the condition that a turn is one.
func turning(t api.ImageTurn) condition {
	return func() api.Errno {
		d := divisor(t.X, t.Y)
		return firstError(
			refuse(d != 1 && d != -1, api.ErrForm),
			within(t.X, -maxTurn, maxTurn),
			within(t.Y, -maxTurn, maxTurn),
		)
	}
}

// sized is the condition that the numbers of a corner are at most so great in size.
func sized(c api.HallCorner, limit int) condition {
	return func() api.Errno {
		return firstError(within(c.X, -limit, limit), within(c.Y, -limit, limit))
	}
}

// turnTo is the turn from a place to another one, and how often it is made to come there.
func turnTo(from, to api.HallCorner) (api.ImageTurn, int) {
	x, y := to.X-from.X, to.Y-from.Y
	d := divisor(x, y)
	steps := max(d, -d)
	return api.ImageTurn{X: x / steps, Y: y / steps}, steps
}

// TurnTo returns the turn from a place to another one.
func TurnTo(from, to api.HallCorner) (api.ImageTurn, api.Errno) {
	e := firstError(
		sized(from, api.MaxHallImage),
		sized(to, api.MaxHallImage),
		refuse(from == to, api.ErrZero),
	)
	if e != api.OK {
		return api.ImageTurn{}, e
	}
	t, _ := turnTo(from, to)
	return t, api.OK
}

// cross is above 0 if b is met behind a, less than half a turn counter-clockwise, and 0 if they are the same or opposite.
func cross(a, b api.ImageTurn) int { return a.X*b.Y - a.Y*b.X }

func isBetween(a, b, x api.ImageTurn) bool {
	return cross(a, b) > 0 && cross(a, x) > 0 && cross(x, b) > 0
}

// Between returns whether a turn lies between two other ones.
func Between(a, b, x api.ImageTurn) (bool, api.Errno) {
	if e := firstError(turning(a), turning(b), turning(x)); e != api.OK {
		return false, e
	}
	return isBetween(a, b, x), api.OK
}

// roundFrom compares turns by when they are met, going counter-clockwise from a first one.
func roundFrom(first api.ImageTurn) func(a, b api.ImageTurn) int {
	half := func(t api.ImageTurn) int {
		c := cross(first, t)
		if c > 0 || t == first {
			return 0
		}
		return 1
	}
	return func(a, b api.ImageTurn) int {
		return cmp.Or(cmp.Compare(half(a), half(b)), cmp.Compare(0, cross(a, b)))
	}
}

// mirroredTurn is a direction behind its reflection in a plane of a wall.
func mirroredTurn(p api.HallPlane, t api.ImageTurn) api.ImageTurn {
	switch p.Kind {
	case api.PlaneX:
		return api.ImageTurn{X: -t.X, Y: t.Y}
	case api.PlaneY:
		return api.ImageTurn{X: t.X, Y: -t.Y}
	case api.PlaneSum:
		return api.ImageTurn{X: -t.Y, Y: -t.X}
	case api.PlaneLess:
		return api.ImageTurn{X: t.Y, Y: t.X}
	}
	return t
}
