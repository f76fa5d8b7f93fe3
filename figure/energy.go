package figure

import "shoebox/api"

// heard is an ask without an error.
type heard struct{ api.FigureAsk }

// hear is an ask, and its error.
func hear(a api.FigureAsk) (heard, api.Errno) {
	_, e := CheckAsk(a)
	return heard{a}, e
}

// plain is the ask of a response of which all is known.
func plain(r api.Response) api.FigureAsk { return api.FigureAsk{Response: r} }

// count is how many samples there are, and the number of the end.
func (h heard) count() int { return len(h.Response.Samples) }

// square is the energy of a sample.
func (h heard) square(t int) ends {
	sample := int(h.Response.Samples[t])
	size := max(sample, -sample)
	least, greatest := max(size-h.Noise, 0), size+h.Noise
	return between(least*least, greatest*greatest)
}

// behind is the energy behind the end.
func (h heard) behind() ends { return between(0, h.Tail) }

// energy is that of samples, without what is behind the end.
func (h heard) energy(from, to int) ends {
	var sum ends
	for t := from; t < to; t++ {
		sum = sum.plus(h.square(t))
	}
	return sum
}

// sums is the backward sums at all samples, and at the end.
func (h heard) sums() []ends {
	l := make([]ends, h.count()+1)
	l[h.count()] = h.behind()
	for t := h.count() - 1; t >= 0; t-- {
		l[t] = l[t+1].plus(h.square(t))
	}
	return l
}

// all is the backward sum at 0.
func (h heard) all() ends { return h.sums()[0] }

// split is the number of the first late sample at a time, or that of the end.
func (h heard) split(time int) int { return min(sampleAt(h.Response.Rate, time), h.count()) }

func (h heard) early(time int) ends { return h.energy(0, h.split(time)) }

func (h heard) late(time int) ends { return h.sums()[h.split(time)] }

// windowError is the error of a window of an ask.
func (h heard) windowError(w api.FigureWindow) api.Errno {
	return firstError(within(w.To, 0, h.count()), within(w.From, 0, w.To))
}

// Energy returns the energy of a window of a response.
func Energy(r api.Response, w api.FigureWindow) (int, api.Errno) {
	n, e := EnergyWithin(plain(r), w)
	return n.Lo, e
}

// EnergyWithin returns the energy of a window within an ask.
func EnergyWithin(a api.FigureAsk, w api.FigureWindow) (api.Range, api.Errno) {
	h, e := hear(a)
	if e := firstError(e, h.windowError(w)); e != api.OK {
		return api.Range{}, e
	}
	energy := h.energy(w.From, w.To)
	if w.To == h.count() {
		energy = energy.plus(h.behind())
	}
	return energy.Range, api.OK
}

// Sums returns the backward sums at all samples of a response.
func Sums(r api.Response) ([]int, api.Errno) {
	sums, e := SumsWithin(plain(r))
	if e != api.OK {
		return nil, e
	}
	var l []int
	for _, sum := range sums {
		l = append(l, sum.Lo)
	}
	return l, api.OK
}

// SumsWithin returns the backward sums at all samples within an ask.
func SumsWithin(a api.FigureAsk) ([]api.Range, api.Errno) {
	h, e := hear(a)
	if e != api.OK {
		return nil, e
	}
	var l []api.Range
	for _, sum := range h.sums()[:h.count()] {
		l = append(l, sum.Range)
	}
	return l, api.OK
}
