package array

import (
	"cmp"
	"iter"
	"math/bits"
	"slices"

	"shoebox/api"
)

// The unknowns are how far each loudspeaker is open, and the value. If a task has fewer columns than there may be, those that are missing stand for loudspeakers that give nothing.
const (
	unknowns     = api.MaxArrayColumns + 1
	unknownValue = api.MaxArrayColumns
)

// limit is something that the unknowns keep: they are multiplied by parts, and the sum is at most a number.
type limit struct {
	parts [unknowns]int
	most  int
}

// limits is first, for each seat, that the value is at most what it gets, then that it gets no more than the cap; then, for each loudspeaker, that it is open by 1 at most, and by 0 at least.
func (t task) limits() []limit {
	var low, high, caps, floors []limit
	for _, row := range t.Table {
		least, greatest := limit{}, limit{most: t.Cap}
		least.parts[unknownValue] = 1
		for j, n := range row {
			least.parts[j], greatest.parts[j] = -n, n
		}
		low, high = append(low, least), append(high, greatest)
	}
	for j := range api.MaxArrayColumns {
		open, shut := limit{most: 1}, limit{}
		open.parts[j], shut.parts[j] = 1, -1
		caps, floors = append(caps, open), append(floors, shut)
	}
	return slices.Concat(low, high, caps, floors)
}

// square is the parts of as many limits as there are unknowns.
type square [unknowns][unknowns]int

// determinant goes by pairs of columns of the upper and of the lower two rows.
func (s square) determinant() int {
	upper := func(i, j int) int { return s[0][i]*s[1][j] - s[0][j]*s[1][i] }
	lower := func(i, j int) int { return s[2][i]*s[3][j] - s[2][j]*s[3][i] }
	return upper(0, 1)*lower(2, 3) - upper(0, 2)*lower(1, 3) + upper(0, 3)*lower(1, 2) +
		upper(1, 2)*lower(0, 3) - upper(1, 3)*lower(0, 2) + upper(2, 3)*lower(0, 1)
}

func (s square) withRow(i int, row [unknowns]int) square {
	s[i] = row
	return s
}

func (s square) withColumn(j int, column [unknowns]int) square {
	for i, n := range column {
		s[i][j] = n
	}
	return s
}

// corner is the unknowns for which some limits are kept without anything left, and a weight for each limit, 0 for the others: the limits' parts, times their weights, add up to those of the value alone. All this is over a denominator; if it is 0 there is no single such corner.
type corner struct {
	den     int
	at      [unknowns]int
	weights []int
}

// cornerOf is the corner of some limits, as many as there are unknowns, by Cramer's rule. Numbers of tables are so small that no denominator and no weight comes near MaxArrayDen.
func cornerOf(limits []limit, chosen []int) corner {
	var parts square
	var most, valueAlone [unknowns]int
	for i, number := range chosen {
		parts[i], most[i] = limits[number].parts, limits[number].most
	}
	valueAlone[unknownValue] = 1
	determinant := parts.determinant()
	sign := cmp.Compare(determinant, 0)
	c := corner{den: sign * determinant, weights: make([]int, len(limits))}
	for i, number := range chosen {
		c.at[i] = sign * parts.withColumn(i, most).determinant()
		c.weights[number] = sign * parts.withRow(i, valueAlone).determinant()
	}
	return c
}

// keeps tells whether a limit is kept at the corner.
func (c corner) keeps(l limit) bool { return products(l.parts[:], c.at[:]) <= l.most*c.den }

// isBest tells whether the corner keeps all limits, and its weights prove that no value is greater.
func (c corner) isBest(limits []limit) bool {
	return c.den > 0 && slices.Min(c.weights) >= 0 &&
		!slices.ContainsFunc(limits, func(l limit) bool { return !c.keeps(l) })
}

// corners yields the corners of all choices of limits.
func corners(limits []limit) iter.Seq[corner] {
	return func(yield func(corner) bool) {
		for choice := range uint(1) << len(limits) {
			if bits.OnesCount(choice) == unknowns && !yield(cornerOf(limits, ones(choice))) {
				return
			}
		}
	}
}

// ones is the places of the ones among the bits of a number.
func ones(n uint) []int {
	var l []int
	for ; n != 0; n &= n - 1 {
		l = append(l, bits.TrailingZeros(n))
	}
	return l
}

// best is a best corner. There always is one, because the unknowns can keep all limits, and the value has a bound: then one of the corners with the greatest value has weights that prove it.
func (t task) best() corner {
	limits := t.limits()
	var c corner
	for c = range corners(limits) {
		if c.isBest(limits) {
			break
		}
	}
	return c
}

func (c corner) value() fraction { return fraction{c.at[unknownValue], c.den} }

// open is how far the loudspeakers of a task are open at the corner.
func (c corner) open(t task) api.ArrayOpen {
	return api.ArrayOpen{Den: c.den, Open: slices.Clone(c.at[:t.columns()])}
}

// weightsOf is the weights of the corner that concern a task, by the order of its limits.
func (c corner) weightsOf(t task) api.ArrayWeights {
	seats := len(t.Table)
	return api.ArrayWeights{
		Den:  c.den,
		Low:  slices.Clone(c.weights[:seats]),
		High: slices.Clone(c.weights[seats : 2*seats]),
		Caps: slices.Clone(c.weights[2*seats : 2*seats+t.columns()]),
	}
}

// BestOpen returns what is open with the greatest value, weights that prove that none is greater, and the value.
func BestOpen(t api.ArrayTask) (api.ArrayOpen, api.ArrayWeights, [2]int, api.Errno) {
	k := task{t}
	if e := k.check(); e != api.OK {
		return api.ArrayOpen{}, api.ArrayWeights{}, [2]int{}, e
	}
	c := k.best()
	return c.open(k), c.weightsOf(k), c.value().lowest(), api.OK
}

// Reaches returns whether something accepted has a value of at least a level.
func Reaches(t api.ArrayTask, level int) (bool, api.Errno) {
	k := task{t}
	if e := firstError(k.check, within(level, 0, mostLevel)); e != api.OK {
		return false, e
	}
	return k.best().value().isAtLeast(level), api.OK
}
