package image

import (
	"iter"

	"shoebox/api"
	"shoebox/hall"
)

// stage is a hall in one of its settings, with the names and the planes of its surfaces.
type stage struct {
	api.Hall
	setting api.HallSetting
	names   []string
	planes  []api.HallPlane
}

// enter is the stage of a hall in a setting, if neither has an error.
func enter(h api.Hall, s api.HallSetting) (*stage, api.Errno) {
	if e := hall.CheckSetting(h, s); e != api.OK {
		return nil, e
	}
	// no way depends on the seats, and each call of package hall would look at all of them again
	h.Seats = nil
	names, e := hall.Surfaces(h)
	if e != api.OK {
		return nil, e
	}
	g := &stage{Hall: h, setting: s, names: names}
	for n := range names {
		plane, e := hall.PlaneOf(h, s, n)
		if e != api.OK {
			return nil, e
		}
		g.planes = append(g.planes, plane)
	}
	return g, api.OK
}

// visit is the stage of a hall in its first setting.
func visit(h api.Hall) (*stage, api.Errno) { return enter(h, firstSetting(h)) }

// firstSetting is not that of hall.SettingAt, which refuses halls with too many settings.
func firstSetting(h api.Hall) api.HallSetting {
	return api.HallSetting{Heights: make([]int, len(h.Canopies))}
}

// inside is the condition that a place is in the hall.
func (g *stage) inside(at api.Place) condition {
	return func() api.Errno {
		isInside, e := hall.IsInside(g.Hall, pointOf(at))
		if e == api.OK && !isInside {
			return api.ErrBreak
		}
		return e
	}
}

// covered is the condition that a source is in the plan.
func (g *stage) covered(from api.HallCorner) condition {
	const aboveFloor = 1 // and below the ceiling, in any hall
	return g.inside(api.Place{X: from.X, Y: from.Y, Z: aboveFloor})
}

// known is the condition that a list is one of surfaces.
func (g *stage) known(surfaces []int) condition {
	return func() api.Errno {
		if len(surfaces) > api.MaxImageOrder {
			return api.ErrLarge
		}
		for i, n := range surfaces {
			switch {
			case n < 0 || n >= len(g.names):
				return api.ErrMissing
			case i > 0 && n == surfaces[i-1]:
				return api.ErrDouble
			}
		}
		return api.OK
	}
}

// behind yields the surfaces that may follow a list: all but its last one.
func (g *stage) behind(surfaces []int) iter.Seq[int] {
	return func(yield func(int) bool) {
		last := lastOf(surfaces)
		for n := range g.names {
			if n != last && !yield(n) {
				return
			}
		}
	}
}

// walks yields all lists of at most so many surfaces; each one stays as it is only until the next one comes.
func (g *stage) walks(most int) iter.Seq[[]int] {
	return func(yield func([]int) bool) { g.lengthen(nil, most, yield) }
}

// lengthen yields a list and all longer ones that begin with it; false if no more are wanted.
func (g *stage) lengthen(surfaces []int, most int, yield func([]int) bool) bool {
	if !yield(surfaces) {
		return false
	}
	if len(surfaces) == most {
		return true
	}
	for n := range g.behind(surfaces) {
		if !g.lengthen(append(surfaces, n), most, yield) {
			return false
		}
	}
	return true
}

func pointOf(at api.Place) api.HallPoint {
	return api.HallPoint{X: at.X, Y: at.Y, Z: at.Z, Den: 1}
}

// onFloor is a place of the plan, and floorOf is a place seen from above.
func onFloor(c api.HallCorner) api.Place  { return api.Place{X: c.X, Y: c.Y} }
func floorOf(at api.Place) api.HallCorner { return api.HallCorner{X: at.X, Y: at.Y} }

// level is what is the same at all places of a plane of this kind.
func level(kind int, at api.Place) int {
	switch kind {
	case api.PlaneX:
		return at.X
	case api.PlaneY:
		return at.Y
	case api.PlaneZ:
		return at.Z
	case api.PlaneSum:
		return at.X + at.Y
	}
	return at.X - at.Y
}

// off is 0 in the plane of a surface, and has different signs on its two sides.
func (g *stage) off(surface int, at api.Place) int {
	p := g.planes[surface]
	return level(p.Kind, at) - p.At
}

// isBeside tells whether two places lie strictly on one side of the plane of a surface.
func (g *stage) isBeside(surface int, a, b api.Place) bool {
	return g.off(surface, a)*g.off(surface, b) > 0
}

// isAcross tells whether two places lie strictly on different sides of the plane of a surface.
func (g *stage) isAcross(surface int, a, b api.Place) bool {
	return g.off(surface, a)*g.off(surface, b) < 0
}
