package filter

import (
	"cmp"
	"math/bits"
)

// wide is a product of two numbers that are not below 0: it may be too great for an int.
type wide struct{ high, low uint64 }

func product(a, b int) wide {
	high, low := bits.Mul64(uint64(a), uint64(b))
	return wide{high, low}
}

// compare is -1, 0 or 1, as a product is less than, equal to or greater than another one.
func (x wide) compare(y wide) int {
	return cmp.Or(cmp.Compare(x.high, y.high), cmp.Compare(x.low, y.low))
}

// over is a product divided by a number above 0, rounded down and up; the quotient has to be an int.
func (x wide) over(by int) (down, up int) {
	quotient, rest := bits.Div64(x.high, x.low, uint64(by))
	down, up = int(quotient), int(quotient)
	if rest > 0 {
		up++
	}
	return down, up
}
