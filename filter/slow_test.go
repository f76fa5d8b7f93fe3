package filter_test

import (
	"math"
	"math/big"
	"math/cmplx"
	"slices"

	"shoebox/api"
)

// What follows works things out anew, slowly: in fractions without a bound, and after the definitions.

func rat(num, den int) *big.Rat { return big.NewRat(int64(num), int64(den)) }

func plus(l ...*big.Rat) *big.Rat {
	sum := new(big.Rat)
	for _, x := range l {
		sum.Add(sum, x)
	}
	return sum
}

func times(a, b *big.Rat) *big.Rat { return new(big.Rat).Mul(a, b) }

func minus(a *big.Rat) *big.Rat { return new(big.Rat).Neg(a) }

// down and up are the whole numbers next to a fraction.
func down(x *big.Rat) int {
	n := new(big.Int)
	n.DivMod(x.Num(), x.Denom(), new(big.Int)) // the rest is not below 0
	return int(n.Int64())
}

func up(x *big.Rat) int { return -down(minus(x)) }

// rounded is the nearest whole number, halves up.
func rounded(x *big.Rat) int { return down(plus(x, rat(1, 2))) }

func sizeOf(n int) int {
	if n < 0 {
		return -n
	}
	return n
}

// slowStable looks at the roots of z z + a z + b, with whole numbers: two that stand across each other, or two real ones.
func slowStable(s api.FilterSection) bool {
	a, b := s.A[0], s.A[1]
	square := a*a - 4*one*b // of how far real roots are apart, in parts of FilterOne
	if square < 0 {
		return b < one
	}
	room := 2*one - sizeOf(a)
	return room > 0 && square < room*room
}

// slowNearest looks at all pairs of A in the order in which they are preferred.
func slowNearest(s api.FilterSection, reach int) (api.FilterSection, int, bool) {
	type pair struct{ apart, first, second int }
	var pairs []pair
	for i := -reach; i <= reach; i++ {
		for j := -reach; j <= reach; j++ {
			pairs = append(pairs, pair{sizeOf(i) + sizeOf(j), s.A[0] + i, s.A[1] + j})
		}
	}
	slices.SortFunc(pairs, func(a, b pair) int {
		return slices.Compare(list(a.apart, a.first, a.second), list(b.apart, b.first, b.second))
	})
	for _, p := range pairs {
		s.A = [2]int{p.first, p.second}
		if sizeOf(p.first) <= mostPart && sizeOf(p.second) <= mostPart && slowStable(s) {
			return s, p.apart, true
		}
	}
	return api.FilterSection{}, 0, false
}

// roots is the roots of a polynomial, found step by step from places that are not alike.
func roots(p []int) []complex128 {
	at := func(z complex128) complex128 {
		sum := complex(0, 0)
		for _, n := range p {
			sum = sum*z + complex(float64(n), 0)
		}
		return sum / complex(float64(p[0]), 0)
	}
	var l []complex128
	for k := range len(p) - 1 {
		l = append(l, cmplx.Pow(complex(0.4, 0.9), complex(float64(k), 0)))
	}
	for range 500 {
		for i, z := range l {
			by := complex(1, 0)
			for j, other := range l {
				if i != j {
					by *= z - other
				}
			}
			if by != 0 {
				l[i] -= at(z) / by
			}
		}
	}
	return l
}

// greatestRoot is how far the farthest root is from 0.
func greatestRoot(p []int) float64 {
	most := 0.0
	for _, z := range roots(p) {
		most = math.Max(most, cmplx.Abs(z))
	}
	return most
}

// slowSteps makes step down after step down without a bound.
func slowSteps(p []int) (isStable bool, steps int) {
	var l []*big.Int
	for _, n := range p {
		l = append(l, big.NewInt(int64(n)))
	}
	for {
		n := len(l) - 1
		if l[0].CmpAbs(l[n]) <= 0 {
			return false, steps
		}
		if n == 1 {
			return true, steps
		}
		var next []*big.Int
		for k := range n {
			a := new(big.Int).Mul(l[0], l[k])
			b := new(big.Int).Mul(l[n], l[n-k])
			next = append(next, a.Sub(a, b))
		}
		l, steps = next, steps+1
	}
}

// slowBound is a bound in fractions.
func slowBound(s api.FilterSection, most int) (int, bool) {
	left := one - sizeOf(s.A[0]) - sizeOf(s.A[1])
	if left <= 0 {
		return 0, false
	}
	gain := rat(sizeOf(s.B[0])+sizeOf(s.B[1])+sizeOf(s.B[2]), left)
	n := down(plus(times(gain, rat(most, 1)), rat(one/2, left)))
	if n > loud {
		return loud, true
	}
	return n, true
}

// slowOutput is the output of a section, and its state behind it.
func slowOutput(s api.FilterSection, x int, was api.FilterState) (int, api.FilterState, bool) {
	part := func(coefficient, n int) *big.Rat { return times(rat(coefficient, one), rat(n, 1)) }
	sum := plus(part(s.B[0], x), part(s.B[1], was.X[0]), part(s.B[2], was.X[1]))
	sum = plus(sum, minus(part(s.A[0], was.Y[0])), minus(part(s.A[1], was.Y[1])))
	y := rounded(sum)
	isCut := y > loud || y < -loud
	if isCut {
		y = loud * (y / sizeOf(y))
	}
	return y, state(x, was.X[0], y, was.Y[0]), isCut
}

// slowRun goes through the whole list section by section, not sample by sample.
func slowRun(c []api.FilterSection, in []float32, was []api.FilterState) ([]float32, []api.FilterState, int) {
	cuts := 0
	behind := slices.Clone(was)
	out := slices.Clone(in)
	for i, s := range c {
		for k, x := range out {
			y, next, isCut := slowOutput(s, int(x), behind[i])
			if isCut {
				cuts++
			}
			out[k], behind[i] = float32(y), next
		}
	}
	return out, behind, cuts
}

// slowCycle keeps all last outputs in a list, and compares them with all that follow.
func slowCycle(s api.FilterSection, y [2]int) (api.FilterCycle, bool) {
	seen := [][2]int{y}
	at := api.FilterState{Y: y}
	for range 1000 {
		_, at, _ = slowOutput(s, 0, at)
		seen = append(seen, at.Y)
	}
	for from, a := range seen {
		if more := slices.Index(seen[from+1:], a); more >= 0 {
			return api.FilterCycle{From: from, Length: more + 1}, true
		}
	}
	return api.FilterCycle{}, false
}

// point is a complex number with fractions as parts.
type point struct{ re, im *big.Rat }

func (a point) plus(b point) point { return point{plus(a.re, b.re), plus(a.im, b.im)} }

func (a point) times(b point) point {
	return point{
		plus(times(a.re, b.re), minus(times(a.im, b.im))),
		plus(times(a.re, b.im), times(a.im, b.re)),
	}
}

func whole(n int) point { return point{rat(n, 1), rat(0, 1)} }

// slowGain is the gain squared of a section at a turn; false if its denominator is 0.
func slowGain(s api.FilterSection, t api.FilterTurn) (*big.Rat, bool) {
	z := point{rat(t.P, t.R), rat(t.Q, t.R)}
	square := func(a, b, c int) *big.Rat {
		p := whole(a).times(z).times(z).plus(whole(b).times(z)).plus(whole(c))
		return plus(times(p.re, p.re), times(p.im, p.im))
	}
	below := square(one, s.A[0], s.A[1])
	if below.Sign() == 0 {
		return nil, false
	}
	return new(big.Rat).Quo(square(s.B[0], s.B[1], s.B[2]), below), true
}

// slowRange is the enclosure of the gains of a cascade, and its error.
func slowRange(c []api.FilterSection, t api.FilterTurn) (api.Range, api.Errno) {
	const parts, most = 1 << 20, 1 << 30
	r := api.Range{Lo: parts, Hi: parts}
	limit := rat(most, parts)
	for _, s := range c {
		g, ok := slowGain(s, t)
		if !ok {
			return api.Range{}, api.ErrZero
		}
		if g.Cmp(limit) > 0 { // a whole number of parts is a limit for the number that is rounded up too
			return api.Range{}, api.ErrLarge
		}
		inParts := times(g, rat(parts, 1))
		r.Lo = down(times(rat(r.Lo, parts), rat(down(inParts), 1)))
		r.Hi = up(times(rat(r.Hi, parts), rat(up(inParts), 1)))
		if r.Hi > most {
			return api.Range{}, api.ErrLarge
		}
	}
	return r, api.OK
}
