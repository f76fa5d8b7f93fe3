package energy

import (
	"shoebox/api"
	"shoebox/hall"
)

// 24 times the natural logarithm of 10 lies between these, in thousandths.
const (
	leastDecay    = 55262
	greatestDecay = 55263
)

// silent is the part of Whole at which sound is gone.
const silent = api.Whole / api.Million

// decay is a room in which sound dies away, with its surface and what of it absorbs.
type decay struct {
	*room
	air
	whole, absorbs ends
}

// listen is the decay of a hall in a setting, if nothing has an error and something absorbs.
func listen(h api.Hall, s api.HallSetting, x api.EnergyAir) (*decay, api.Errno) {
	r, e := enter(h, s)
	if e != api.OK {
		return nil, e
	}
	if e := (air{x}).check(); e != api.OK {
		return nil, e
	}
	area, e := hall.AbsorptionArea(r.hall, s, x.Band)
	if e != api.OK {
		return nil, e
	}
	if area.Lo == 0 {
		return nil, api.ErrZero
	}
	return &decay{room: r, air: air{x}, whole: r.surface(), absorbs: ends{area}}, api.OK
}

// left is the share that is left at a hit, in millionths. More may be absorbed at most than there is surface at least.
func (d *decay) left() ends {
	return between(
		down(api.Million*max(d.whole.Lo-d.absorbs.Hi, 0), d.whole.Lo),
		up(api.Million*(d.whole.Hi-d.absorbs.Lo), d.whole.Hi),
	)
}

// countHits is after how many hits sound is gone, or any number above MaxEnergySteps.
func countHits(share int, divide func(n, by int) int) int {
	energy, hits := api.Whole, 0
	for energy > silent && hits <= api.MaxEnergySteps {
		energy = divide(energy*share, api.Million)
		hits++
	}
	return hits
}

// hits is after how many hits sound is gone.
func (d *decay) hits() (ends, api.Errno) {
	share := d.left()
	n := between(countHits(share.Lo, down), countHits(share.Hi, up))
	if n.Hi > api.MaxEnergySteps {
		return ends{}, api.ErrLarge
	}
	return n, api.OK
}

// SurfaceOf returns the surface of a hall.
func SurfaceOf(h api.Hall, s api.HallSetting) (api.Range, api.Errno) {
	r, e := enter(h, s)
	if e != api.OK {
		return api.Range{}, e
	}
	return r.surface().Range, api.OK
}

// MeanPath returns the mean path of a hall.
func MeanPath(h api.Hall, s api.HallSetting) (api.Range, api.Errno) {
	r, e := enter(h, s)
	if e != api.OK {
		return api.Range{}, e
	}
	return exactly(2 * r.twiceVolume()).over(r.surface()).Range, api.OK
}

// Sabine returns the reverberation by Sabine, in milliseconds.
func Sabine(h api.Hall, s api.HallSetting, x api.EnergyAir) (api.Range, api.Errno) {
	d, e := listen(h, s, x)
	if e != api.OK {
		return api.Range{}, e
	}
	volume := d.twiceVolume()
	return between(leastDecay*volume, greatestDecay*volume).over(d.absorbs.times(2 * d.Speed)).Range, api.OK
}

// Hits returns after how many hits sound is gone.
func Hits(h api.Hall, s api.HallSetting, x api.EnergyAir) (api.Range, api.Errno) {
	d, e := listen(h, s, x)
	if e != api.OK {
		return api.Range{}, e
	}
	n, e := d.hits()
	return n.Range, e
}

// Eyring returns the reverberation by hits, in milliseconds.
func Eyring(h api.Hall, s api.HallSetting, x api.EnergyAir) (api.Range, api.Errno) {
	d, e := listen(h, s, x)
	if e != api.OK {
		return api.Range{}, e
	}
	n, e := d.hits()
	if e != api.OK {
		return api.Range{}, e
	}
	// sound may be gone right behind the last hit but one
	ways := between(n.Lo-1, n.Hi).times(2 * api.Thousand * d.twiceVolume())
	return ways.over(d.whole.times(d.Speed)).Range, api.OK
}
