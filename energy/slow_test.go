package energy_test

import (
	"math/big"

	"shoebox/api"
	"shoebox/hall"
)

// Results are held against slow ones, in whole numbers without a bound, that follow the chapter's definitions directly.

func number(n int) *big.Int          { return big.NewInt(int64(n)) }
func product(l ...*big.Int) *big.Int { return fold(number(1), (*big.Int).Mul, l) }
func total(l ...*big.Int) *big.Int   { return fold(number(0), (*big.Int).Add, l) }
func less(a, b *big.Int) *big.Int    { return new(big.Int).Sub(a, b) }
func isAbove(a, b *big.Int) bool     { return a.Cmp(b) > 0 }
func floor(a, b *big.Int) *big.Int   { return new(big.Int).Div(a, b) }
func toInt(n *big.Int) int           { return int(n.Int64()) }

func fold(first *big.Int, join func(z, x, y *big.Int) *big.Int, l []*big.Int) *big.Int {
	for _, n := range l {
		first = join(new(big.Int), first, n)
	}
	return first
}

func ceiling(a, b *big.Int) *big.Int {
	n, rest := new(big.Int).DivMod(a, b, new(big.Int))
	if rest.Sign() > 0 {
		return total(n, number(1))
	}
	return n
}

func rangeOf(lo, hi *big.Int) api.Range { return from(toInt(lo), toInt(hi)) }

// rounding is how an end is divided: down for the least one, up for the greatest one.
type rounding func(a, b *big.Int) *big.Int

// energyOf is one end of the energy of a path that goes so many metres.
func energyOf(c scene, p api.ImagePath, x api.EnergyAir, metres int, round rounding) *big.Int {
	n := round(number(api.Whole), number(p.Square))
	for _, s := range p.Surfaces {
		absorbed, _ := hall.Absorbed(c.h, c.s, s)
		scattered, _ := hall.Scattered(c.h, c.s, s)
		n = round(product(n, number(1000-absorbed[x.Band])), number(1000))
		n = round(product(n, number(1000-scattered)), number(1000))
	}
	for range metres {
		n = round(product(n, number(1000000-x.Air)), number(1000000))
	}
	return n
}

// slowEnergy is the energy of a path.
func slowEnergy(c scene, p api.ImagePath, x api.EnergyAir) api.Range {
	square := product(number(p.Square), number(100000000))
	least := new(big.Int).Sqrt(square)
	greatest := least
	if isAbove(square, product(least, least)) {
		greatest = total(least, number(1))
	}
	metre := number(1000000)
	return rangeOf(
		energyOf(c, p, x, toInt(ceiling(greatest, metre)), floor),
		energyOf(c, p, x, toInt(floor(least, metre)), ceiling),
	)
}

// numbers is a list without a bound.
func numbers(l []int) []*big.Int {
	var m []*big.Int
	for _, n := range l {
		m = append(m, number(n))
	}
	return m
}

// slowStep is a step of an exchange, and what is lost.
func slowStep(x api.EnergyExchange, e []*big.Int) ([]*big.Int, *big.Int) {
	next, lost := numbers(make([]int, len(e))), number(0)
	for i := range e {
		gone := ceiling(product(e[i], number(x.Lost[i])), number(1000))
		lost = total(lost, gone)
		kept := less(e[i], gone)
		left, most := kept, 0
		for k, share := range x.Shares[i] {
			part := floor(product(kept, number(share)), number(1000))
			next[k] = total(next[k], part)
			left = less(left, part)
			if share > x.Shares[i][most] {
				most = k
			}
		}
		next[most] = total(next[most], left)
	}
	return next, lost
}

// slowSteps is how many steps leave at most so many millionths of all energies; -1 if there are too many.
func slowSteps(x api.EnergyExchange, energies []int, millionths int) int {
	e := numbers(energies)
	most := product(total(e...), number(millionths))
	for n := range 1001 {
		if !isAbove(product(total(e...), number(1000000)), most) {
			return n
		}
		e, _ = slowStep(x, e)
	}
	return -1
}

// slowBound is the bound of a total.
func slowBound(x api.EnergyExchange, sum, steps int) api.Range {
	least, most := x.Lost[0], x.Lost[0]
	for _, n := range x.Lost {
		least, most = min(least, n), max(most, n)
	}
	lo, hi := number(sum), number(sum)
	for range steps {
		hi = less(hi, ceiling(product(hi, number(least)), number(1000)))
		lo = less(less(lo, floor(product(lo, number(most)), number(1000))), number(len(x.Lost)))
		if lo.Sign() < 0 {
			lo = number(0)
		}
	}
	return rangeOf(lo, hi)
}

// surfaceEnds is the surface of a hall: its least and its greatest number.
func surfaceEnds(c scene) [2]*big.Int {
	names, _ := hall.Surfaces(c.h)
	lo, hi := number(0), number(0)
	for n := range names {
		area, _ := hall.AreaOf(c.h, c.s, n)
		lo, hi = total(lo, number(area.Lo)), total(hi, number(area.Hi))
		if n > len(c.h.Walls)+1 {
			lo, hi = total(lo, number(area.Lo)), total(hi, number(area.Hi))
		}
	}
	return [2]*big.Int{lo, hi}
}

func absorptionEnds(c scene, band int) [2]*big.Int {
	a, _ := hall.AbsorptionArea(c.h, c.s, band)
	return [2]*big.Int{number(a.Lo), number(a.Hi)}
}

func volumeTwice(c scene) *big.Int {
	n, _ := hall.TwiceVolume(c.h)
	return number(n)
}

func slowMeanPath(c scene) api.Range {
	s, v := surfaceEnds(c), product(number(2), volumeTwice(c))
	return rangeOf(floor(v, s[1]), ceiling(v, s[0]))
}

func slowSabine(c scene, x api.EnergyAir) api.Range {
	a, v, speed := absorptionEnds(c, x.Band), volumeTwice(c), number(2*x.Speed)
	return rangeOf(
		floor(product(number(55262), v), product(speed, a[1])),
		ceiling(product(number(55263), v), product(speed, a[0])),
	)
}

// hitsOf is how often a share is left until sound is gone, or 1001.
func hitsOf(share *big.Int, round rounding) int {
	n := number(1000000000000)
	for k := range 1001 {
		if !isAbove(n, number(1000000)) {
			return k
		}
		n = round(product(n, share), number(1000000))
	}
	return 1001
}

func slowHits(c scene, band int) api.Range {
	s, a, million := surfaceEnds(c), absorptionEnds(c, band), number(1000000)
	kept := less(s[0], a[1])
	if kept.Sign() < 0 {
		kept = number(0)
	}
	least := floor(product(million, kept), s[0])
	greatest := ceiling(product(million, less(s[1], a[0])), s[1])
	return from(hitsOf(least, floor), hitsOf(greatest, ceiling))
}

func slowEyring(c scene, x api.EnergyAir) api.Range {
	s, v, hits := surfaceEnds(c), product(number(2000), volumeTwice(c)), slowHits(c, x.Band)
	return rangeOf(
		floor(product(v, number(hits.Lo-1)), product(s[1], number(x.Speed))),
		ceiling(product(v, number(hits.Hi)), product(s[0], number(x.Speed))),
	)
}
