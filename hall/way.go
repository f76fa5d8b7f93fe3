package hall

import "shoebox/api"

// MirrorIn returns the mirror image of a place in a plane.
func MirrorIn(p api.HallPlane, at api.Place) (api.Place, api.Errno) {
	if p.Kind < api.PlaneX || p.Kind > api.PlaneLess {
		return api.Place{}, api.ErrKind
	}
	if beyond(2*api.MaxPlace, p.At) {
		return api.Place{}, api.ErrRange
	}
	if e := placeError(at); e != api.OK {
		return api.Place{}, e
	}
	image := mirrored(p, at)
	if placeError(image) != api.OK {
		return api.Place{}, api.ErrLarge
	}
	return image, api.OK
}

func mirrored(p api.HallPlane, at api.Place) api.Place {
	switch p.Kind {
	case api.PlaneX:
		at.X = 2*p.At - at.X
	case api.PlaneY:
		at.Y = 2*p.At - at.Y
	case api.PlaneZ:
		at.Z = 2*p.At - at.Z
	case api.PlaneSum:
		at.X, at.Y = p.At-at.Y, p.At-at.X
	case api.PlaneLess:
		at.X, at.Y = p.At+at.Y, at.X-p.At
	}
	return at
}

// IsInside returns whether a point is strictly inside of a hall.
func IsInside(h api.Hall, p api.HallPoint) (bool, api.Errno) {
	r, e := visit(h)
	if e != api.OK {
		return false, e
	}
	if e := pointError(p); e != api.OK {
		return false, e
	}
	return r.isWithin(p), api.OK
}

// IsFree returns whether a way is free.
func IsFree(h api.Hall, s api.HallSetting, way api.HallWay) (bool, api.Errno) {
	r, e := visitIn(h, s)
	if e != api.OK {
		return false, e
	}
	if e := pointError(way.From); e != api.OK {
		return false, e
	}
	if e := pointError(way.To); e != api.OK {
		return false, e
	}
	if way.From == way.To {
		return false, api.ErrZero
	}
	return r.isFree(way), api.OK
}

// CrossAt returns the point in which a straight way meets a surface well.
func CrossAt(h api.Hall, s api.HallSetting, x api.HallCross) (api.HallPoint, api.Errno) {
	_, f, e := surfaceIn(h, s, x.Surface)
	if e != api.OK {
		return api.HallPoint{}, e
	}
	if e := placeError(x.From); e != api.OK {
		return api.HallPoint{}, e
	}
	if e := pointError(x.To); e != api.OK {
		return api.HallPoint{}, e
	}
	p, ok := meet(f.plane, api.HallWay{From: pointOf(x.From), To: x.To})
	if !ok || !f.holdsWell(p) {
		return api.HallPoint{}, api.ErrNone
	}
	p = lowest(p)
	if p.Den > api.MaxHallDen {
		return api.HallPoint{}, api.ErrLarge
	}
	return p, api.OK
}

// SeatsSeen returns the numbers of the seats to which the way from a place is free, or that are there.
func SeatsSeen(h api.Hall, s api.HallSetting, from api.Place) ([]int, api.Errno) {
	r, e := visitIn(h, s)
	if e != api.OK {
		return nil, e
	}
	if e := r.checkInside(from); e != api.OK {
		return nil, e
	}
	var l []int
	for i, seat := range r.Seats {
		way := api.HallWay{From: pointOf(from), To: pointOf(seat.At)}
		if seat.At == from || r.isFree(way) {
			l = append(l, i)
		}
	}
	return l, api.OK
}
