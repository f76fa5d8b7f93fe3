package array

import (
	"sort"

	"shoebox/api"
)

// lengthParts is in how many parts of a centimetre lengths are told. A length in them times the rate, divided by the speed, is as many parts of a sample.
const lengthParts = 1000

// way leads from one place straight to another one.
type way struct{ from, to api.Place }

// placed is the condition that a place is one.
func placed(p api.Place) condition {
	return allWithin([]int{p.X, p.Y, p.Z}, -api.MaxPlace, api.MaxPlace)
}

// audible is the condition that rate and speed are those of a sound.
func audible(x api.ArraySound) condition {
	return func() api.Errno {
		return firstError(
			within(x.Rate, api.LeastRate, api.MaxRate),
			within(x.Speed, api.LeastSpeed, api.MaxSpeed),
		)
	}
}

// check is the error of both places.
func (w way) check() api.Errno { return firstError(placed(w.from), placed(w.to)) }

// apart is the error of places that are too close together.
func (w way) apart() api.Errno {
	return refuse(w.square() < api.LeastDistance*api.LeastDistance, api.ErrZero)()
}

func (w way) square() int {
	x, y, z := w.to.X-w.from.X, w.to.Y-w.from.Y, w.to.Z-w.from.Z
	return x*x + y*y + z*z
}

// length is the distance in parts of a centimetre.
func (w way) length() api.Range { return root(lengthParts * lengthParts * w.square()) }

// travel is the time of the way in samples.
func (w way) travel(x api.ArraySound) api.Range {
	return scaled(w.length(), x.Rate, lengthParts*x.Speed)
}

// numbers is the numbers that may be; the first one is the nominal number.
func (w way) numbers(x api.ArraySound) api.Range {
	parts := scaled(w.length(), x.Rate, x.Speed)
	nearest := func(n int) int { return (n + lengthParts/2) / lengthParts }
	return api.Range{Lo: nearest(parts.Lo), Hi: nearest(parts.Hi)}
}

// strength is what is left of the amplitude; the way must not be too short.
func (w way) strength() api.Range {
	const whole = api.ArrayAmplitude * lengthParts
	length := w.length()
	return api.Range{Lo: whole / length.Hi, Hi: up(whole, length.Lo)}
}

// root is the root of a number, rounded down and up: in whole numbers, because that of a float may be rounded past it.
func root(n int) api.Range {
	const most = 1 << 31
	low := sort.Search(most, func(k int) bool { return (k+1)*(k+1) > n })
	if low*low == n {
		return api.Range{Lo: low, Hi: low}
	}
	return api.Range{Lo: low, Hi: low + 1}
}

// up divides a number that is not below 0, rounding up.
func up(n, by int) int { return (n + by - 1) / by }

// scaled is a range, not below 0, times a number and divided by another one, rounded down and up.
func scaled(r api.Range, times, by int) api.Range {
	return api.Range{Lo: r.Lo * times / by, Hi: up(r.Hi*times, by)}
}

// Travel returns the travel between two places, in samples.
func Travel(a, b api.Place, x api.ArraySound) (api.Range, api.Errno) {
	w := way{a, b}
	if e := firstError(w.check, audible(x)); e != api.OK {
		return api.Range{}, e
	}
	return w.travel(x), api.OK
}

// NumbersOf returns the least and the greatest number of samples that may be between two places.
func NumbersOf(a, b api.Place, x api.ArraySound) (api.Range, api.Errno) {
	w := way{a, b}
	if e := firstError(w.check, audible(x)); e != api.OK {
		return api.Range{}, e
	}
	return w.numbers(x), api.OK
}

// Strength returns the strength between two places.
func Strength(a, b api.Place) (api.Range, api.Errno) {
	w := way{a, b}
	if e := firstError(w.check, w.apart); e != api.OK {
		return api.Range{}, e
	}
	return w.strength(), api.OK
}
