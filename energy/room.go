package energy

import (
	"shoebox/api"
	"shoebox/hall"
	"shoebox/image"
)

// room is a hall in one of its settings, and how many surfaces it has.
type room struct {
	hall    api.Hall
	setting api.HallSetting
	count   int
}

// enter is the room of a hall in a setting, if neither has an error.
func enter(h api.Hall, s api.HallSetting) (*room, api.Errno) {
	if e := hall.CheckSetting(h, s); e != api.OK {
		return nil, e
	}
	// energy does not depend on the seats, and each call of package hall would look at all of them again
	h.Seats = nil
	names, e := hall.Surfaces(h)
	if e != api.OK {
		return nil, e
	}
	return &room{hall: h, setting: s, count: len(names)}, api.OK
}

// surfaces yields the numbers of all surfaces.
func (r *room) surfaces(yield func(int) bool) {
	for n := range r.count {
		if !yield(n) {
			return
		}
	}
}

// sides is how many sides of a surface sound can hit: a canopy hangs free.
func (r *room) sides(surface int) int {
	const floorAndCeiling = 2
	if surface < len(r.hall.Walls)+floorAndCeiling {
		return 1
	}
	return 2
}

// surface is the sum of all areas that sound can hit.
func (r *room) surface() ends {
	sum := exactly(0)
	for n := range r.surfaces {
		area, _ := hall.AreaOf(r.hall, r.setting, n)
		sum = sum.plus(ends{area}.times(r.sides(n)))
	}
	return sum
}

func (r *room) twiceVolume() int {
	n, _ := hall.TwiceVolume(r.hall)
	return n
}

// path is the check that a path is one, as far as it and its surfaces tell.
func (r *room) path(p api.ImagePath) check {
	return func() api.Errno {
		if _, e := image.LengthOf(p); e != api.OK {
			return e
		}
		// the text of a walk has just the errors of its surfaces, because the hall has none
		_, e := image.FormatWalk(r.hall, p.Surfaces)
		return e
	}
}

// air is the air of a room, as it is asked for.
type air struct{ api.EnergyAir }

func (a air) check() api.Errno {
	return firstError(
		refuse(a.Band < 0 || a.Band >= api.Bands, api.ErrMissing),
		within(a.Air, 0, api.MaxEnergyAir),
		within(a.Speed, api.LeastSpeed, api.MaxSpeed),
	)
}

// leaves is what air leaves of energy on a way of so many metres: the least energy goes the longest way.
func (a air) leaves(energy, metres ends) ends {
	left := api.Million - a.Air
	for range metres.Hi {
		energy.Lo = down(energy.Lo*left, api.Million)
	}
	for range metres.Lo {
		energy.Hi = up(energy.Hi*left, api.Million)
	}
	return energy
}
