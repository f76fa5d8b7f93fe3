package figure_test

import (
	"math/big"

	"shoebox/api"
)

// Results are held against slow ones that follow the chapter's definitions directly, in fractions without a bound.

func whole(n int) *big.Rat { return new(big.Rat).SetInt64(int64(n)) }

func plus(a, b *big.Rat) *big.Rat  { return new(big.Rat).Add(a, b) }
func minus(a, b *big.Rat) *big.Rat { return new(big.Rat).Sub(a, b) }
func times(a, b *big.Rat) *big.Rat { return new(big.Rat).Mul(a, b) }
func over(a, b *big.Rat) *big.Rat  { return new(big.Rat).Quo(a, b) }

func isAtMost(a, b *big.Rat) bool { return a.Cmp(b) <= 0 }

func isNothing(a *big.Rat) bool { return a.Sign() == 0 }

// tens is 10 to a power, which may be negative.
func tens(power int) *big.Rat {
	n := whole(1)
	for range max(power, -power) {
		n = times(n, whole(10))
	}
	if power < 0 {
		return n.Inv(n)
	}
	return n
}

// floor and ceiling are a fraction rounded; Div rounds down if the divisor is above 0.
func floor(a *big.Rat) int { return int(new(big.Int).Div(a.Num(), a.Denom()).Int64()) }
func ceiling(a *big.Rat) int {
	return -floor(new(big.Rat).Neg(a))
}

// exact is a range of fractions.
type exact struct{ lo, hi *big.Rat }

func nothing() exact { return exact{whole(0), whole(0)} }

func (x exact) plus(y exact) exact { return exact{plus(x.lo, y.lo), plus(x.hi, y.hi)} }

func (x exact) scaled(by *big.Rat) exact { return exact{times(x.lo, by), times(x.hi, by)} }

// outwards is the whole numbers around.
func (x exact) outwards() api.Range { return span(floor(x.lo), ceiling(x.hi)) }

func slowSquare(a api.FigureAsk, t int) exact {
	size := new(big.Rat).SetFloat64(float64(a.Response.Samples[t]))
	size.Abs(size)
	least := minus(size, whole(a.Noise))
	if least.Sign() < 0 {
		least = whole(0)
	}
	greatest := plus(size, whole(a.Noise))
	return exact{times(least, least), times(greatest, greatest)}
}

// slowEnergy is that of samples, without what is behind the end.
func slowEnergy(a api.FigureAsk, from, to int) exact {
	sum := nothing()
	for t := from; t < to; t++ {
		sum = sum.plus(slowSquare(a, t))
	}
	return sum
}

// slowSums is the backward sums, with that at the end.
func slowSums(a api.FigureAsk) []exact {
	l := make([]exact, len(a.Response.Samples)+1)
	sum := exact{whole(0), whole(a.Tail)}
	for t := len(l) - 1; t >= 0; t-- {
		if t < len(a.Response.Samples) {
			sum = sum.plus(slowSquare(a, t))
		}
		l[t] = sum
	}
	return l
}

func slowIsPassed(first, sum *big.Rat, fives int) bool {
	return isAtMost(times(times(sum, sum), tens(fives)), times(first, first))
}

func slowFirstBelow(x api.Response, fives int) (int, api.Errno) {
	sums := slowSums(asked(x, 0, 0))
	if isNothing(sums[0].lo) {
		return 0, api.ErrZero
	}
	t := 0
	for !slowIsPassed(sums[0].lo, sums[t].lo, fives) {
		t++
	}
	return t, api.OK
}

// slowPassing is that of a drop between backward sums; false if it is not surely passed at a sample.
func slowPassing(sums []exact, fives int) (exact, bool) {
	perhaps, surely := -1, -1
	for t, sum := range sums[:len(sums)-1] {
		if perhaps < 0 && slowIsPassed(sums[0].hi, sum.lo, fives) {
			perhaps = t
		}
		if surely < 0 && slowIsPassed(sums[0].lo, sum.hi, fives) {
			surely = t
		}
	}
	if surely < 0 {
		return exact{}, false
	}
	return exact{whole(max(0, perhaps-1)), whole(surely)}, true
}

func slowDecay(a api.FigureAsk, kind int) (api.Range, api.Errno) {
	sums := slowSums(a)
	if isNothing(sums[0].lo) {
		return api.Range{}, api.ErrZero
	}
	early, isEarly := slowPassing(sums, 2)
	five, isFive := slowPassing(sums, 1)
	late, isLate := slowPassing(sums, map[int]int{api.DecayTwenty: 5, api.DecayThirty: 7}[kind])
	micro := over(whole(million), whole(a.Response.Rate))
	switch {
	case kind == api.DecayEarly && isEarly:
		return early.scaled(times(whole(6), micro)).outwards(), api.OK
	case kind != api.DecayEarly && isFive && isLate:
		parts := exact{minus(late.lo, five.hi), minus(late.hi, five.lo)}
		if parts.lo.Sign() < 0 {
			parts.lo = whole(0)
		}
		return parts.scaled(times(whole(map[int]int{api.DecayTwenty: 3, api.DecayThirty: 2}[kind]), micro)).outwards(), api.OK
	}
	return api.Range{}, api.ErrNone
}

// slowTenth is the greatest whole number that is at most 10^9 times 10^(k/10): its tenth power is at most 10^(90 + k).
func slowTenth(k int) int {
	least, greatest := 0, 10*mostPart
	for least < greatest {
		middle := (least + greatest + 1) / 2
		power := whole(1)
		for range 10 {
			power = times(power, whole(middle))
		}
		if isAtMost(power, tens(90+k)) {
			least = middle
		} else {
			greatest = middle - 1
		}
	}
	return least
}

// slowPowers is what the power of each level from -95 to 95 is at least and at most.
func slowPowers() map[int]exact {
	l := map[int]exact{}
	for k := range 10 {
		n := slowTenth(k)
		power := exact{whole(n), whole(n + min(k, 1))}
		for a := -10; a <= 9; a++ {
			l[10*a+k] = power.scaled(tens(a - 9))
		}
	}
	return l
}

func slowLevel(powers map[int]exact, num, den *big.Rat) (api.Range, api.Errno) {
	if !isAtMost(whole(1), num) || !isAtMost(num, whole(mostEnergy)) || !isAtMost(whole(1), den) || !isAtMost(den, whole(mostEnergy)) {
		return api.Range{}, api.ErrRange
	}
	ratio := over(num, den)
	if isAtMost(ratio, tens(9)) && isAtMost(tens(-9), ratio) {
		return slowLevelOf(powers, ratio), api.OK
	}
	return api.Range{}, api.ErrLarge
}

func slowLevelOf(powers map[int]exact, ratio *big.Rat) api.Range {
	level := span(-1000, 1000)
	for d, power := range powers {
		if isAtMost(power.hi, ratio) {
			level.Lo = max(level.Lo, d)
		}
		if isAtMost(ratio, power.lo) {
			level.Hi = min(level.Hi, d)
		}
	}
	return level
}

// slowSampleAt is the first number whose sample is not ahead of a time.
func slowSampleAt(rate, time int) int {
	n := 0
	for n*million < time*rate {
		n++
	}
	return n
}

// slowSides is early and late at a time.
func slowSides(a api.FigureAsk, time int) (early, late exact) {
	early, late = nothing(), exact{whole(0), whole(a.Tail)}
	for t := range a.Response.Samples {
		if t*million < time*a.Response.Rate {
			early = early.plus(slowSquare(a, t))
		} else {
			late = late.plus(slowSquare(a, t))
		}
	}
	return early, late
}

func slowClarity(powers map[int]exact, a api.FigureAsk, time int) (api.Range, api.Errno) {
	if time*a.Response.Rate > (len(a.Response.Samples)-1)*million {
		return api.Range{}, api.ErrNone
	}
	early, late := slowSides(a, time)
	if isNothing(early.lo) || isNothing(late.lo) {
		return api.Range{}, api.ErrZero
	}
	least, e := slowLevel(powers, early.lo, late.hi)
	greatest, wrong := slowLevel(powers, early.hi, late.lo)
	if e == api.OK {
		e = wrong
	}
	if e != api.OK {
		return api.Range{}, e
	}
	return span(least.Lo, greatest.Hi), api.OK
}

func slowFrac(num, den *big.Rat) (api.Frac, api.Errno) {
	if isNothing(den) {
		return api.Frac{}, api.ErrZero
	}
	share := over(num, den)
	if share.Num().Cmp(big.NewInt(mostPart)) > 0 || share.Denom().Cmp(big.NewInt(mostPart)) > 0 {
		return api.Frac{}, api.ErrLarge
	}
	return frac(int(share.Num().Int64()), int(share.Denom().Int64())), api.OK
}

func slowDefinition(x api.Response, time int) (api.Frac, api.Errno) {
	early, late := slowSides(asked(x, 0, 0), time)
	return slowFrac(early.lo, plus(early.lo, late.lo))
}

func slowDefinitionWithin(a api.FigureAsk, time int) (api.Range, api.Errno) {
	early, late := slowSides(a, time)
	if isNothing(early.lo) && isNothing(late.lo) {
		return api.Range{}, api.ErrZero
	}
	share := exact{over(early.lo, plus(early.lo, late.hi)), over(early.hi, plus(early.hi, late.lo))}
	return share.scaled(whole(1000)).outwards(), api.OK
}

func slowLateral(omni, side api.Response) (api.Frac, api.Errno) {
	until, _ := slowSides(asked(side, 0, 0), 80000)
	ahead, _ := slowSides(asked(side, 0, 0), 5000)
	all, _ := slowSides(asked(omni, 0, 0), 80000)
	return slowFrac(minus(until.lo, ahead.lo), all.lo)
}

func slowCentre(a api.FigureAsk) (api.Range, api.Errno) {
	if a.Tail != 0 {
		return api.Range{}, api.ErrOpen
	}
	energy, moment := nothing(), nothing()
	for t := range a.Response.Samples {
		energy = energy.plus(slowSquare(a, t))
		moment = moment.plus(slowSquare(a, t).scaled(whole(t)))
	}
	if isNothing(energy.lo) {
		return api.Range{}, api.ErrZero
	}
	micro := over(whole(million), whole(a.Response.Rate))
	centre := exact{over(moment.lo, energy.hi), over(moment.hi, energy.lo)}.scaled(micro).outwards()
	centre.Hi = min(centre.Hi, ceiling(times(whole(len(a.Response.Samples)-1), micro)))
	return centre, api.OK
}

// slowModulated divides each energy by i as often as the time says.
func slowModulated(x api.Response, block int) (re, im *big.Rat) {
	re, im = whole(0), whole(0)
	for t := range x.Samples {
		a, b := slowSquare(asked(x, 0, 0), t).lo, whole(0)
		for range t / block {
			a, b = b, new(big.Rat).Neg(a)
		}
		re, im = plus(re, a), plus(im, b)
	}
	return re, im
}

func slowTransfer(x api.Response, block int) (api.Frac, api.Errno) {
	re, im := slowModulated(x, block)
	energy := slowSums(asked(x, 0, 0))[0].lo
	if !isAtMost(energy, whole(mostPart)) {
		return api.Frac{}, api.ErrLarge
	}
	return slowFrac(plus(times(re, re), times(im, im)), times(energy, energy))
}
