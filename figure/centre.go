package figure

import "shoebox/api"

// moment is the sum of the numbers of all samples times their energies.
func (h heard) moment() ends {
	var sum ends
	for t := range h.count() {
		sum = sum.plus(h.square(t).times(t))
	}
	return sum
}

// centre is the moment by the energy, in microseconds.
func (h heard) centre() (ends, api.Errno) {
	energy, moment := h.all(), h.moment()
	if e := firstError(refuse(h.Tail != 0, api.ErrOpen), refuse(energy.Lo == 0, api.ErrZero)); e != api.OK {
		return ends{}, e
	}
	least, _ := product(moment.Lo, api.Million).over(energy.Hi * h.Response.Rate)
	_, greatest := product(moment.Hi, api.Million).over(energy.Lo * h.Response.Rate)
	last := h.count() - 1
	return between(least, min(greatest, h.time(between(last, last)).Hi)), api.OK
}

// Centre returns the centre time of an ask, in microseconds.
func Centre(a api.FigureAsk) (api.Range, api.Errno) {
	h, e := hear(a)
	if e != api.OK {
		return api.Range{}, e
	}
	time, e := h.centre()
	return time.Range, e
}
