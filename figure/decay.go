package figure

import (
	"slices"

	"shoebox/api"
)

// slope is a part of a decay: the passing of a drop to so many steps of five decibels, less that of one to fewer (0: nothing is taken off), and how many times it stands for sixty decibels.
type slope struct{ from, to, times int }

var slopes = [...]slope{
	api.DecayEarly:  {0, 2, 6},
	api.DecayTwenty: {1, 5, 3},
	api.DecayThirty: {1, 7, 2},
}

func kindError(kind int) api.Errno {
	return refuse(kind < 0 || kind >= len(slopes), api.ErrKind)
}

// tenTo is a power of ten.
func tenTo(n int) int {
	power := 1
	for range n {
		power *= 10
	}
	return power
}

// isPassed tells whether a drop lies between the sum at 0 and another one. The power of ten is shared out to both factors of the square, so that each of them is an int.
func isPassed(first, sum, fives int) bool {
	half := fives / 2
	return product(sum*tenTo(half), sum*tenTo(fives-half)).isAtMost(product(first, first))
}

// passing is between which numbers a drop is passed, if it is surely passed at a sample.
func (h heard) passing(fives int) (ends, api.Errno) {
	sums := h.sums()
	perhaps := slices.IndexFunc(sums, func(sum ends) bool { return isPassed(sums[0].Hi, sum.Lo, fives) })
	surely := slices.IndexFunc(sums, func(sum ends) bool { return isPassed(sums[0].Lo, sum.Hi, fives) })
	if surely < 0 || surely == h.count() {
		return ends{}, api.ErrNone
	}
	return between(max(perhaps-1, 0), surely), api.OK
}

// time is a number of samples in microseconds.
func (h heard) time(samples ends) ends {
	micro := samples.times(api.Million)
	return between(down(micro.Lo, h.Response.Rate), up(micro.Hi, h.Response.Rate))
}

func (h heard) decay(kind int) (ends, api.Errno) {
	if h.all().Lo == 0 {
		return ends{}, api.ErrZero
	}
	s := slopes[kind]
	var from ends
	if s.from > 0 {
		passing, e := h.passing(s.from)
		if e != api.OK {
			return ends{}, e
		}
		from = passing
	}
	to, e := h.passing(s.to)
	if e != api.OK {
		return ends{}, e
	}
	return h.time(to.less(from).times(s.times)), api.OK
}

// FirstBelow returns the first number at which a drop of so many steps of five decibels is passed.
func FirstBelow(r api.Response, fives int) (int, api.Errno) {
	h, e := hear(plain(r))
	if e := firstError(e, within(fives, 0, api.MaxFigureFives)); e != api.OK {
		return 0, e
	}
	sums := h.sums()
	if sums[0].Lo == 0 {
		return 0, api.ErrZero
	}
	return slices.IndexFunc(sums, func(sum ends) bool { return isPassed(sums[0].Lo, sum.Lo, fives) }), api.OK
}

// Decay returns a decay time of a response, in microseconds.
func Decay(r api.Response, kind int) (api.Range, api.Errno) {
	return DecayWithin(plain(r), kind)
}

// DecayWithin returns a decay time of an ask, in microseconds.
func DecayWithin(a api.FigureAsk, kind int) (api.Range, api.Errno) {
	h, e := hear(a)
	if e := firstError(e, kindError(kind)); e != api.OK {
		return api.Range{}, e
	}
	time, e := h.decay(kind)
	return time.Range, e
}
