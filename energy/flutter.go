package energy

import (
	"shoebox/api"
	"shoebox/hall"
	"shoebox/image"
)

// planes is the plane of each surface.
func (r *room) planes() []api.HallPlane {
	var l []api.HallPlane
	for n := range r.surfaces {
		plane, _ := hall.PlaneOf(r.hall, r.setting, n)
		l = append(l, plane)
	}
	return l
}

// periodSquare is the square of the way from a plane to one with the same kind and back.
func periodSquare(a, b api.HallPlane) int {
	off := b.At - a.At
	if a.Kind == api.PlaneSum || a.Kind == api.PlaneLess {
		return 2 * off * off
	}
	return 4 * off * off
}

// Flutters returns all two surfaces that flutter for an ask.
func Flutters(h api.Hall, s api.HallSetting, a api.ImageAsk) ([]api.EnergyFlutter, api.Errno) {
	if e := asked(h, s, a)(); e != api.OK {
		return nil, e
	}
	r, e := enter(h, s)
	if e != api.OK {
		return nil, e
	}
	planes := r.planes()
	var l []api.EnergyFlutter
	for first := range r.surfaces {
		for second := range r.surfaces {
			if second <= first || planes[first].Kind != planes[second].Kind {
				continue
			}
			_, e := image.PathOf(r.hall, s, a, []int{first, second, first, second})
			if e == api.OK {
				l = append(l, api.EnergyFlutter{A: first, B: second, Square: periodSquare(planes[first], planes[second])})
			}
		}
	}
	return l, api.OK
}

// PeriodOf returns the delay of the length of a period.
func PeriodOf(f api.EnergyFlutter, speed int) (api.Range, api.Errno) {
	return image.DelayOf(api.ImagePath{Square: f.Square}, speed)
}
