package array_test

import (
	"math/big"

	"shoebox/api"
)

// What follows works things out anew, slowly: in fractions without a bound, and after the definitions.

func rat(num, den int) *big.Rat { return big.NewRat(int64(num), int64(den)) }

func plus(l ...*big.Rat) *big.Rat {
	sum := new(big.Rat)
	for _, x := range l {
		sum.Add(sum, x)
	}
	return sum
}

func times(l ...*big.Rat) *big.Rat {
	product := rat(1, 1)
	for _, x := range l {
		product.Mul(product, x)
	}
	return product
}

func minus(a *big.Rat) *big.Rat { return new(big.Rat).Neg(a) }

// down and up are the whole numbers next to a fraction.
func down(x *big.Rat) int {
	n := new(big.Int)
	n.DivMod(x.Num(), x.Denom(), new(big.Int)) // the rest is not below 0
	return int(n.Int64())
}

func up(x *big.Rat) int { return -down(minus(x)) }

// rootDown and rootUp are the whole numbers next to the root of a whole number.
func rootDown(square int) int { return int(new(big.Int).Sqrt(big.NewInt(int64(square))).Int64()) }

func rootUp(square int) int {
	n := rootDown(square)
	if n*n < square {
		n++
	}
	return n
}

func squareOf(a, b api.Place) int {
	x, y, z := a.X-b.X, a.Y-b.Y, a.Z-b.Z
	return x*x + y*y + z*z
}

// slowLength is 1000 times the distance, rounded down and up.
func slowLength(a, b api.Place) api.Range {
	square := million * squareOf(a, b)
	return between(rootDown(square), rootUp(square))
}

func slowTravel(a, b api.Place, x api.ArraySound) api.Range {
	length := slowLength(a, b)
	by := rat(x.Rate, 1000*x.Speed)
	return between(down(times(rat(length.Lo, 1), by)), up(times(rat(length.Hi, 1), by)))
}

func slowNumbers(a, b api.Place, x api.ArraySound) api.Range {
	length := slowLength(a, b)
	by := rat(x.Rate, x.Speed)
	parts := between(down(times(rat(length.Lo, 1), by)), up(times(rat(length.Hi, 1), by)))
	return between(down(rat(parts.Lo+500, 1000)), down(rat(parts.Hi+500, 1000)))
}

func slowStrength(a, b api.Place) api.Range {
	length := slowLength(a, b)
	return between(down(rat(1000000000, length.Hi)), up(rat(1000000000, length.Lo)))
}

// slowShare turns a size by -i, again and again.
func slowShare(size, turns int) (re, im int) {
	re = size
	for range turns % 4 {
		re, im = im, -re
	}
	return re, im
}

// slowParts are all that a loudspeaker may add to the real and the imaginary part of a pressure, and first what it does.
func slowParts(s api.ArraySpeaker, seat api.Place, x api.ArraySound) (re, im []int) {
	numbers, strength := slowNumbers(s.At, seat, x), slowStrength(s.At, seat)
	for n := numbers.Lo; n <= numbers.Hi; n++ {
		for _, size := range list(strength.Lo, strength.Hi) {
			a, b := slowShare(s.Gain*size, n+s.Delay)
			re, im = append(re, a), append(im, b)
		}
	}
	return re, im
}

func slowPressure(a api.Array, seat api.Place) (re, im int) {
	for _, s := range a.Speakers {
		allRe, allIm := slowParts(s, seat, sound(a.Rate, a.Speed))
		re, im = re+allRe[0], im+allIm[0]
	}
	return re, im
}

// leastAndGreatest of a list.
func leastAndGreatest(l []int) api.Range {
	r := between(l[0], l[0])
	for _, n := range l {
		if n < r.Lo {
			r.Lo = n
		}
		if n > r.Hi {
			r.Hi = n
		}
	}
	return r
}

func together(a, b api.Range) api.Range { return between(a.Lo+b.Lo, a.Hi+b.Hi) }

func slowEnds(a api.Array, seat api.Place) [2]api.Range {
	var ends [2]api.Range
	for _, s := range a.Speakers {
		re, im := slowParts(s, seat, sound(a.Rate, a.Speed))
		ends[0] = together(ends[0], leastAndGreatest(re))
		ends[1] = together(ends[1], leastAndGreatest(im))
	}
	return ends
}

// slowSquares is the least and the greatest square of the numbers of a range.
func slowSquares(r api.Range) api.Range {
	squares := list(r.Lo*r.Lo, r.Hi*r.Hi)
	if r.Lo <= 0 && 0 <= r.Hi {
		squares = append(squares, 0)
	}
	return leastAndGreatest(squares)
}

func slowSize(a api.Array, seat api.Place) api.Range {
	ends := slowEnds(a, seat)
	square := together(slowSquares(ends[0]), slowSquares(ends[1]))
	return between(rootDown(square.Lo), rootUp(square.Hi))
}

func slowEnergy(a api.Array, seat api.Place) api.Range {
	var sum api.Range
	for _, s := range a.Speakers {
		strength := slowStrength(s.At, seat)
		least, greatest := s.Gain*strength.Lo, s.Gain*strength.Hi
		sum = together(sum, between(least*least, greatest*greatest))
	}
	return sum
}

// slowNumber is what stands in a table for a loudspeaker and a seat.
func slowNumber(s api.ArraySpeaker, seat api.Place, unit int) int {
	pressure := rat(1000*slowStrength(s.At, seat).Lo, 1)
	return down(times(pressure, pressure, rat(1, unit)))
}

// slowGets is what a seat gets.
func slowGets(row []int, o api.ArrayOpen) *big.Rat {
	sum := new(big.Rat)
	for j, n := range row {
		sum = plus(sum, times(rat(n, 1), rat(o.Open[j], o.Den)))
	}
	return sum
}

// slowValue is the value of what is open, and whether it is accepted.
func slowValue(x api.ArrayTask, o api.ArrayOpen) (*big.Rat, bool) {
	var least *big.Rat
	isAccepted := true
	for _, row := range x.Table {
		gets := slowGets(row, o)
		if least == nil || gets.Cmp(least) < 0 {
			least = gets
		}
		isAccepted = isAccepted && gets.Cmp(rat(x.Cap, 1)) <= 0
	}
	return least, isAccepted
}

// slowBound is the bound of weights, and whether they are right.
func slowBound(x api.ArrayTask, w api.ArrayWeights) (*big.Rat, bool) {
	low, bound := new(big.Rat), new(big.Rat)
	for i := range x.Table {
		low = plus(low, rat(w.Low[i], w.Den))
		bound = plus(bound, times(rat(w.High[i], w.Den), rat(x.Cap, 1)))
	}
	areRight := low.Cmp(rat(1, 1)) == 0
	for j, n := range w.Caps {
		most := rat(n, w.Den)
		bound = plus(bound, most)
		for i, row := range x.Table {
			less := plus(rat(w.Low[i], w.Den), minus(rat(w.High[i], w.Den)))
			most = plus(most, minus(times(less, rat(row[j], 1))))
		}
		areRight = areRight && most.Sign() >= 0
	}
	return bound, areRight
}

// inTwo is a fraction as two numbers.
func inTwo(x *big.Rat) [2]int { return [2]int{int(x.Num().Int64()), int(x.Denom().Int64())} }
