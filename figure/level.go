package figure

import "shoebox/api"

// The parts in which powers are told, and the level of the greatest quotient.
const (
	powerOne      = 1000000000
	greatestLevel = 90
)

// tenths is, by k, what 10^(k/10) is at least; but for k = 0 it is less than one more.
var tenths = [...]int{
	powerOne, 1258925411, 1584893192, 1995262314, 2511886431,
	3162277660, 3981071705, 5011872336, 6309573444, 7943282347,
}

// powerOf is what the power of a level is at least and at most, and in how many parts of 1.
func powerOf(level int) (power ends, one int) {
	k := modulo(level, len(tenths))
	whole := (level - k) / len(tenths)
	power = between(tenths[k], tenths[k])
	if k > 0 {
		power.Hi++
	}
	return power.times(tenTo(max(whole, 0))), powerOne * tenTo(max(-whole, 0))
}

// quotient is two numbers above 0 of which the first one is divided by the second one.
type quotient struct{ num, den int }

// reaches tells whether the power of a level is surely at most the quotient.
func (q quotient) reaches(level int) bool {
	power, one := powerOf(level)
	return product(power.Hi, q.den).isAtMost(product(q.num, one))
}

// keepsTo tells whether the power of a level is surely at least the quotient.
func (q quotient) keepsTo(level int) bool {
	power, one := powerOf(level)
	return product(q.num, one).isAtMost(product(power.Lo, q.den))
}

// clarity is the level of early and late.
func (h heard) clarity(time int) (ends, api.Errno) {
	early, late := h.early(time), h.late(time)
	e := firstError(
		refuse(sampleAt(h.Response.Rate, time) >= h.count(), api.ErrNone),
		refuse(early.Lo == 0 || late.Lo == 0, api.ErrZero),
	)
	if e != api.OK {
		return ends{}, e
	}
	least, e := LevelOf(early.Lo, late.Hi)
	if e != api.OK {
		return ends{}, e
	}
	greatest, e := LevelOf(early.Hi, late.Lo)
	if e != api.OK {
		return ends{}, e
	}
	return between(least.Lo, greatest.Hi), api.OK
}

// LevelOf returns the level of two numbers, in whole decibels.
func LevelOf(num, den int) (api.Range, api.Errno) {
	e := firstError(within(num, 1, api.MaxFigureEnergy), within(den, 1, api.MaxFigureEnergy))
	if e != api.OK {
		return api.Range{}, e
	}
	q := quotient{num, den}
	if !q.reaches(-greatestLevel) || !q.keepsTo(greatestLevel) {
		return api.Range{}, api.ErrLarge
	}
	level := api.Range{Lo: -greatestLevel, Hi: greatestLevel}
	for q.reaches(level.Lo + 1) {
		level.Lo++
	}
	for q.keepsTo(level.Hi - 1) {
		level.Hi--
	}
	return level, api.OK
}

// Clarity returns the level of early and late at a time, in whole decibels.
func Clarity(a api.FigureAsk, time int) (api.Range, api.Errno) {
	h, e := hear(a)
	if e := firstError(e, timeError(time)); e != api.OK {
		return api.Range{}, e
	}
	level, e := h.clarity(time)
	return level.Range, e
}
