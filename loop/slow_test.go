package loop_test

import (
	"math/big"
	"slices"
	"sync"

	"shoebox/api"
)

// What follows works things out anew, slowly: in numbers without a bound, and after the definitions.

func whole(n int) *big.Int { return big.NewInt(int64(n)) }

func times(l ...*big.Int) *big.Int {
	product := whole(1)
	for _, x := range l {
		product.Mul(product, x)
	}
	return product
}

func plus(a, b *big.Int) *big.Int { return new(big.Int).Add(a, b) }

func absolute(n int) *big.Int { return new(big.Int).Abs(whole(n)) }

func rat(num, den *big.Int) *big.Rat { return new(big.Rat).SetFrac(num, den) }

// down and up are the whole numbers next to a fraction, near is the nearest one, halves up.
func down(x *big.Rat) int {
	n := new(big.Int)
	n.DivMod(x.Num(), x.Denom(), new(big.Int)) // the rest is not below 0
	return int(n.Int64())
}

func up(x *big.Rat) int { return -down(new(big.Rat).Neg(x)) }

func near(x *big.Rat) int { return down(new(big.Rat).Add(x, big.NewRat(1, 2))) }

// slowDirection is the direction of a number of a 4096th of the turn, from those beside it.
func slowDirection(m int, known map[int][2]int) [2]int {
	if d, ok := known[m]; ok {
		return d
	}
	if m > 1024 {
		d := slowDirection(m-1024, known)
		return [2]int{-d[1], d[0]}
	}
	apart := 1
	for m/apart%2 == 0 {
		apart *= 2
	}
	a, b := slowDirection(m-apart, known), slowDirection(m+apart, known)
	x, y := whole(a[0]+b[0]), whole(a[1]+b[1])
	root := new(big.Int).Sqrt(plus(times(x, x), times(y, y)))
	known[m] = [2]int{near(rat(times(x, whole(1<<26)), root)), near(rat(times(y, whole(1<<26)), root))}
	return known[m]
}

// slowUnits is the unit numbers of a turn.
var slowUnits = sync.OnceValue(func() []api.LoopBall {
	known := map[int][2]int{0: {1 << 26, 0}, 512: {47453132, 47453132}, 1024: {0, 1 << 26}}
	var l []api.LoopBall
	for m := range 4096 {
		d := slowDirection(m, known)
		b := ball(near(big.NewRat(int64(d[0]), 64)), near(big.NewRat(int64(d[1]), 64)), 2)
		if m%1024 == 0 {
			b.R = 0
		}
		l = append(l, b)
	}
	return l
})

// slowUnit goes round the circle until m is one of its first numbers.
func slowUnit(m int) api.LoopBall {
	return slowUnits()[new(big.Int).Mod(whole(m), whole(4096)).Int64()]
}

func slowValue(l api.Loop, m int) api.LoopBall {
	x, y, r := new(big.Int), new(big.Int), new(big.Int)
	for k, tap := range l.Taps {
		u := slowUnit(-m * k)
		x.Add(x, times(whole(tap), whole(u.X)))
		y.Add(y, times(whole(tap), whole(u.Y)))
		r.Add(r, times(absolute(tap), whole(u.R)))
	}
	part := func(n *big.Int) *big.Rat { return rat(times(n, whole(l.Gain)), whole(16384*1000)) }
	b := ball(near(part(x)), near(part(y)), up(part(r)))
	if !part(x).IsInt() || !part(y).IsInt() {
		b.R++
	}
	return b
}

func slowBall(l api.Loop, a api.LoopArc) api.LoopBall {
	m := (a.From + a.To) / 2
	sum := new(big.Int)
	for k, tap := range l.Taps {
		sum.Add(sum, times(whole(k), absolute(tap)))
	}
	b := slowValue(l, m)
	b.R += up(rat(times(sum, whole(l.Gain), whole(6284), whole(a.To-m)), whole(64000000)))
	return b
}

func slowClear(b api.LoopBall) bool {
	return absolute(b.Y).Cmp(whole(b.R)) > 0 || b.X+b.R < 1048576
}

// slowRings tells whether a loop rings on an arc.
func slowRings(l api.Loop, a api.LoopArc) bool {
	from, to, all := slowValue(l, a.From), slowValue(l, a.To), slowBall(l, a)
	if a == arc(0, 0) || a == arc(2048, 2048) {
		return from.X-from.R >= 1048576
	}
	crosses := from.Y > from.R && to.Y < -to.R || from.Y < -from.R && to.Y > to.R
	return crosses && all.X-all.R >= 1048576
}

// slowArcs is which arcs are kept of an arc, and which are open.
func slowArcs(l api.Loop, a api.LoopArc) (kept, open []api.LoopArc) {
	if slowClear(slowBall(l, a)) {
		return arcs(a), nil
	}
	if a.To-a.From <= 4 {
		return nil, arcs(a)
	}
	m := (a.From + a.To) / 2
	kept, open = slowArcs(l, arc(a.From, m))
	moreKept, moreOpen := slowArcs(l, arc(m, a.To))
	return append(kept, moreKept...), append(open, moreOpen...)
}

func slowFound(l api.Loop) api.LoopProof {
	kept, open := slowArcs(l, arc(0, 2048))
	if len(open) == 0 {
		return api.LoopProof{Answer: api.AnswerYes, Arcs: kept}
	}
	tried := append(arcs(arc(0, 0), arc(2048, 2048)), open...)
	for _, a := range open {
		for _, b := range open {
			if a.To == b.From {
				tried = append(tried, arc(a.From, b.To))
			}
		}
	}
	for _, a := range tried {
		if slowRings(l, a) {
			return api.LoopProof{Answer: api.AnswerNo, Rings: a}
		}
	}
	return api.LoopProof{Answer: api.AnswerMaybe}
}

func slowSize(l api.Loop) int {
	sum := new(big.Int)
	for _, tap := range l.Taps {
		sum.Add(sum, absolute(tap))
	}
	return up(rat(times(sum, whole(l.Gain)), whole(16384)))
}

// slowScaled is a loop scaled; false if it is not right.
func slowScaled(l api.Loop, n int) (api.Loop, bool) {
	gain := up(rat(times(whole(l.Gain), whole(n)), whole(1000)))
	return looped(gain, l.Taps...), gain <= 10000
}

// slowMargin asks for all margins, the least one first.
func slowMargin(l []api.Loop) int {
	for n := 0; n <= 4000; n += 100 {
		for _, one := range l {
			s, isRight := slowScaled(one, n)
			if !isRight || slowFound(s).Answer != api.AnswerYes {
				return n - 100
			}
		}
	}
	return 4000
}

func slowEchoes(l api.Loop, height, count int) []int {
	var echoes []int
	for n := range count {
		if n == 0 {
			echoes = append(echoes, height)
			continue
		}
		sum := new(big.Int)
		for k, tap := range l.Taps {
			if 1 <= k && k <= n {
				sum.Add(sum, times(whole(tap), whole(echoes[n-k])))
			}
		}
		echo := near(rat(times(sum, whole(l.Gain)), whole(16384*1000)))
		echoes = append(echoes, min(max(echo, -1000000000), 1000000000))
	}
	return echoes
}

// orders is all orders of the first numbers, with the sign of each one.
func orders(count int) (l [][]int, signs []int) {
	if count == 0 {
		return [][]int{nil}, list(1)
	}
	shorter, before := orders(count - 1)
	for i, one := range shorter {
		for at := range count {
			order := slices.Insert(slices.Clone(one), at, count-1)
			sign := before[i]
			if (count-1-at)%2 == 1 {
				sign = -sign
			}
			l, signs = append(l, order), append(signs, sign)
		}
	}
	return l, signs
}

// slowMinor is a determinant as the sum over all orders of its columns.
func slowMinor(x api.LoopLines, n int) int {
	sum := new(big.Int)
	all, signs := orders(n + 1)
	for i, order := range all {
		product := whole(signs[i])
		for row, column := range order {
			number := -x.Sizes[row][column]
			if row == column {
				number += 1000
			}
			product = times(product, whole(number))
		}
		sum.Add(sum, product)
	}
	return int(sum.Int64())
}

func slowMinors(x api.LoopLines) []int {
	var l []int
	for n := range x.Sizes {
		l = append(l, slowMinor(x, n))
	}
	return l
}

// slowProves tells whether weights prove that lines fade.
func slowProves(x api.LoopLines, w []int) bool {
	for i, row := range x.Sizes {
		sum := new(big.Int)
		for j, n := range row {
			sum.Add(sum, times(whole(n), whole(w[j])))
		}
		if sum.Cmp(times(whole(1000), whole(w[i]))) >= 0 {
			return false
		}
	}
	return true
}
