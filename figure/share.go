package figure

import "shoebox/api"

// Between these times, in microseconds, what comes from the sides counts.
const (
	lateralFrom = 5000
	lateralTo   = 80000
)

// commonDivisor is the greatest one of two numbers of which the second one is above 0.
func commonDivisor(a, b int) int {
	for a > 0 {
		a, b = b%a, a
	}
	return b
}

// fraction is a number that is not below 0, divided by one that is above 0, if this has small parts.
func fraction(num, den int) (api.Frac, api.Errno) {
	by := commonDivisor(num, den)
	f := api.Frac{Num: num / by, Den: den / by}
	if f.Num > api.MaxPart || f.Den > api.MaxPart {
		return api.Frac{}, api.ErrLarge
	}
	return f, api.OK
}

// share is a fraction as well, but nothing is no divisor.
func share(num, den int) (api.Frac, api.Errno) {
	if den == 0 {
		return api.Frac{}, api.ErrZero
	}
	return fraction(num, den)
}

// definition is early by all, in thousandths.
func (h heard) definition(time int) (ends, api.Errno) {
	early, late := h.early(time), h.late(time)
	if early.Lo == 0 && late.Lo == 0 {
		return ends{}, api.ErrZero
	}
	parts := early.times(api.Thousand)
	return between(down(parts.Lo, early.Lo+late.Hi), up(parts.Hi, early.Hi+late.Lo)), api.OK
}

// Definition returns which share of the energy of a response is early.
func Definition(r api.Response, time int) (api.Frac, api.Errno) {
	h, e := hear(plain(r))
	if e := firstError(e, timeError(time)); e != api.OK {
		return api.Frac{}, e
	}
	return share(h.early(time).Lo, h.all().Lo)
}

// DefinitionWithin returns which share of the energy of an ask is early, in thousandths.
func DefinitionWithin(a api.FigureAsk, time int) (api.Range, api.Errno) {
	h, e := hear(a)
	if e := firstError(e, timeError(time)); e != api.OK {
		return api.Range{}, e
	}
	parts, e := h.definition(time)
	return parts.Range, e
}

// Lateral returns what comes from the sides, divided by what comes from everywhere.
func Lateral(omni, side api.Response) (api.Frac, api.Errno) {
	all, first := hear(plain(omni))
	sides, second := hear(plain(side))
	if e := firstError(first, second, refuse(omni.Rate != side.Rate, api.ErrClash)); e != api.OK {
		return api.Frac{}, e
	}
	from, to := sides.split(lateralFrom), sides.split(lateralTo)
	return share(sides.energy(from, to).Lo, all.early(lateralTo).Lo)
}
