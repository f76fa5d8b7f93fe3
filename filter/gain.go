package filter

import "shoebox/api"

// greatestGain is the greatest end of a gain, in parts of FilterGainOne.
const greatestGain = 1 << 30

// gain is a gain squared, not in lowest terms: both numbers are squares of sizes, and by is not 0.
type gain struct{ square, by int }

// gainOf is the gain squared of a section at a turn, both of them right.
func gainOf(s api.FilterSection, t api.FilterTurn) (gain, api.Errno) {
	g := gain{
		square: sizeSquared(s.B, t),
		by:     sizeSquared([3]int{api.FilterOne, s.A[0], s.A[1]}, t),
	}
	if g.by == 0 {
		return gain{}, api.ErrZero
	}
	return g, api.OK
}

// sizeSquared is the square of the size of p[0] z z + p[1] z + p[2] at a turn, times the fourth power of R, so that it is whole.
func sizeSquared(p [3]int, t api.FilterTurn) int {
	re := p[0]*(t.P*t.P-t.Q*t.Q) + p[1]*t.P*t.R + p[2]*t.R*t.R
	im := 2*p[0]*t.P*t.Q + p[1]*t.Q*t.R
	return re*re + im*im
}

// inParts is a gain in parts of FilterGainOne, rounded down and up.
func (g gain) inParts() (down, up int, e api.Errno) {
	parts := product(g.square, api.FilterGainOne)
	if parts.compare(product(greatestGain, g.by)) > 0 {
		return 0, 0, api.ErrLarge
	}
	down, up = parts.over(g.by)
	return down, up, api.OK
}

// times is an enclosure of gains with one more.
func (g gain) times(r api.Range) (api.Range, api.Errno) {
	down, up, e := g.inParts()
	if e != api.OK {
		return api.Range{}, e
	}
	r.Lo = floor(r.Lo*down, api.FilterGainOne)
	r.Hi = ceiling(r.Hi*up, api.FilterGainOne)
	return r, refuse(r.Hi > greatestGain, api.ErrLarge)
}

func turnError(t api.FilterTurn) api.Errno {
	// the numbers are asked first: squares of great ones are no ints, and what is left of them might seem right
	isTurn := isSmall(t.P, t.R) && isSmall(t.Q, t.R) && t.P*t.P+t.Q*t.Q == t.R*t.R
	return firstError(within(t.R, 1, api.MaxFilterTurn), refuse(!isTurn, api.ErrShape))
}

// CompareGain tells whether the gain squared of a section at a turn is less than, equal to or greater than a fraction.
func CompareGain(s api.FilterSection, t api.FilterTurn, square api.Frac) (int, api.Errno) {
	e := firstError(
		CheckSection(s),
		turnError(t),
		formError(square),
		within(square.Num, 0, api.MaxPart),
		within(square.Den, 1, api.MaxPart),
	)
	if e != api.OK {
		return 0, e
	}
	g, e := gainOf(s, t)
	if e != api.OK {
		return 0, e
	}
	return product(g.square, square.Den).compare(product(square.Num, g.by)), api.OK
}

// GainSquare returns the gain squared of a section at a turn.
func GainSquare(s api.FilterSection, t api.FilterTurn) (api.Frac, api.Errno) {
	if e := firstError(CheckSection(s), turnError(t)); e != api.OK {
		return api.Frac{}, e
	}
	g, e := gainOf(s, t)
	if e != api.OK {
		return api.Frac{}, e
	}
	f := lowest(g.square, g.by)
	if max(f.Num, f.Den) > api.MaxPart {
		return api.Frac{}, api.ErrLarge
	}
	return f, api.OK
}

// GainRange returns what the gain squared of a cascade at a turn is at least and at most, in parts of FilterGainOne.
func GainRange(c []api.FilterSection, t api.FilterTurn) (api.Range, api.Errno) {
	if e := firstError(cascadeError(c), turnError(t)); e != api.OK {
		return api.Range{}, e
	}
	r := api.Range{Lo: api.FilterGainOne, Hi: api.FilterGainOne}
	for _, s := range c {
		g, e := gainOf(s, t)
		if e != api.OK {
			return api.Range{}, e
		}
		if r, e = g.times(r); e != api.OK {
			return api.Range{}, e
		}
	}
	return r, api.OK
}
