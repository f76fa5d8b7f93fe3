package energy

import "shoebox/api"

// ends are what something is at least and at most; no end is below 0.
type ends struct{ api.Range }

func exactly(n int) ends { return between(n, n) }

func between(least, greatest int) ends { return ends{api.Range{Lo: least, Hi: greatest}} }

// down and up divide numbers that are not below 0.
func down(n, by int) int { return n / by }
func up(n, by int) int   { return (n + by - 1) / by }

func (x ends) plus(y ends) ends { return between(x.Lo+y.Lo, x.Hi+y.Hi) }

func (x ends) times(n int) ends { return between(x.Lo*n, x.Hi*n) }

// over divides by ends above 0: the least end by the greatest one, rounded down, the greatest end by the least one, rounded up.
func (x ends) over(y ends) ends { return between(down(x.Lo, y.Hi), up(x.Hi, y.Lo)) }

// share is n parts of so many.
func (x ends) share(n, parts int) ends { return x.times(n).over(exactly(parts)) }

// within is the check that both ends lie between 0 and a greatest number, in their order.
func (x ends) within(greatest int) check {
	return func() api.Errno {
		return firstError(
			within(x.Lo, 0, greatest),
			within(x.Hi, 0, greatest),
			refuse(x.Lo > x.Hi, api.ErrOrder),
		)
	}
}
