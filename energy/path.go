package energy

import (
	"shoebox/api"
	"shoebox/hall"
	"shoebox/image"
)

// metre is a metre in ten-thousandths of a centimetre.
const metre = 1000000

// mirror is what a surface does not absorb in a band, and what it does not scatter, in thousandths.
type mirror struct{ kept, specular int }

// mirrors is the mirror of each surface. It is worked out once for all paths, because each call of package hall looks at the whole hall.
func (r *room) mirrors(band int) []mirror {
	var l []mirror
	for n := range r.surfaces {
		absorbed, _ := hall.Absorbed(r.hall, r.setting, n)
		scattered, _ := hall.Scattered(r.hall, r.setting, n)
		l = append(l, mirror{api.Thousand - absorbed[band], api.Thousand - scattered})
	}
	return l
}

// energyBy is the energy of a path by mirrors.
func (a air) energyBy(mirrors []mirror, p api.ImagePath) api.Range {
	energy := exactly(api.Whole).over(exactly(p.Square))
	for _, n := range p.Surfaces {
		m := mirrors[n]
		energy = energy.share(m.kept, api.Thousand).share(m.specular, api.Thousand)
	}
	length, _ := image.LengthOf(p)
	return a.leaves(energy, ends{length}.over(exactly(metre))).Range
}

// EnergyOf returns the energy of a path in a band.
func EnergyOf(h api.Hall, s api.HallSetting, p api.ImagePath, x api.EnergyAir) (api.Range, api.Errno) {
	r, e := enter(h, s)
	if e != api.OK {
		return api.Range{}, e
	}
	a := air{x}
	if e := firstError(r.path(p), a.check); e != api.OK {
		return api.Range{}, e
	}
	return a.energyBy(r.mirrors(a.Band), p), api.OK
}

// asked is the check that an ask has no error.
func asked(h api.Hall, s api.HallSetting, x api.ImageAsk) check {
	return func() api.Errno { return image.CheckAsk(h, s, x) }
}

// Echogram returns the echo of each path of an ask.
func Echogram(h api.Hall, s api.HallSetting, a api.ImageAsk, x api.EnergyAir) ([]api.EnergyEcho, api.Errno) {
	w := air{x}
	if e := firstError(asked(h, s, a), w.check); e != api.OK {
		return nil, e
	}
	paths, e := image.Paths(h, s, a)
	if e != api.OK {
		return nil, e
	}
	if len(paths) > api.MaxEnergyEchoes {
		return nil, api.ErrLarge
	}
	r, e := enter(h, s)
	if e != api.OK {
		return nil, e
	}
	mirrors := r.mirrors(w.Band)
	var l []api.EnergyEcho
	for _, p := range paths {
		delay, _ := image.DelayOf(p, w.Speed)
		l = append(l, api.EnergyEcho{Surfaces: p.Surfaces, Delay: delay, Energy: w.energyBy(mirrors, p)})
	}
	return l, api.OK
}
