package loop

import (
	"slices"

	"shoebox/api"
)

// lines is lines of enhancement that are worked with.
type lines struct{ api.LoopLines }

func (x lines) check() api.Errno {
	return firstError(
		counted(len(x.Sizes), api.MaxLoopLines),
		each(len(x.Sizes), func(i int) api.Errno {
			row := x.Sizes[i]
			return firstError(
				refuse(len(row) != len(x.Sizes), api.ErrShape),
				allWithin(row, 0, api.MaxLoopSize),
			)
		}),
	)
}

func (x lines) matrix() matrix {
	var m matrix
	for i, row := range x.Sizes {
		var numbers []int
		for _, n := range row {
			numbers = append(numbers, -n)
		}
		numbers[i] += api.Thousand
		m = append(m, numbers)
	}
	return m
}

func (x lines) minors() []int {
	m := x.matrix()
	var l []int
	for n := range m {
		l = append(l, m.leading(n+1).determinant())
	}
	return l
}

func (x lines) fade() bool { return slices.Min(x.minors()) > 0 }

// weigh is the condition that weights prove that the lines fade, which have to be right.
func (x lines) weigh(w []int) condition {
	return func() api.Errno {
		return firstError(
			refuse(len(w) != len(x.Sizes), api.ErrShape),
			allWithin(w, 1, api.MaxLoopWeight),
			each(len(w), func(i int) api.Errno {
				return refuse(products(x.Sizes[i], w) >= api.Thousand*w[i], api.ErrProof)()
			}),
		)
	}
}

// weights is what the matrix takes to the same number in each row, its determinant, by Cramer's rule. If the lines fade, none of the matrix's cofactors is below 0, those of its diagonal are above 0, and none comes near a fourth of MaxLoopWeight.
func (x lines) weights() []int {
	m := x.matrix()
	var w []int
	for j := range m {
		w = append(w, m.withOnes(j).determinant())
	}
	return w
}

// sizesOf is a row of lines, and the first error of its loops, of which there have to be so many.
func sizesOf(l []api.Loop, count int) ([]int, api.Errno) {
	if len(l) != count {
		return nil, api.ErrShape
	}
	var row []int
	for _, one := range l {
		n, e := SizeOf(one)
		if e != api.OK {
			return nil, e
		}
		if n > api.MaxLoopSize {
			return nil, api.ErrRange
		}
		row = append(row, n)
	}
	return row, api.OK
}

// LinesOf returns lines with the sizes of loops, a row of loops for each line.
func LinesOf(l [][]api.Loop) (api.LoopLines, api.Errno) {
	if e := counted(len(l), api.MaxLoopLines)(); e != api.OK {
		return api.LoopLines{}, e
	}
	var x api.LoopLines
	for _, loops := range l {
		row, e := sizesOf(loops, len(l))
		if e != api.OK {
			return api.LoopLines{}, e
		}
		x.Sizes = append(x.Sizes, row)
	}
	return x, api.OK
}

// CheckLines returns the first error of lines.
func CheckLines(x api.LoopLines) api.Errno { return lines{x}.check() }

// Minors returns all minors of lines.
func Minors(x api.LoopLines) ([]int, api.Errno) {
	k := lines{x}
	if e := k.check(); e != api.OK {
		return nil, e
	}
	return k.minors(), api.OK
}

// Fades returns whether lines fade, whatever their delays are.
func Fades(x api.LoopLines) (bool, api.Errno) {
	k := lines{x}
	if e := k.check(); e != api.OK {
		return false, e
	}
	return k.fade(), api.OK
}

// CheckWeights accepts weights that prove that lines fade.
func CheckWeights(x api.LoopLines, w []int) api.Errno {
	k := lines{x}
	return firstError(k.check, k.weigh(w))
}

// WeightsFor returns weights that prove that lines fade.
func WeightsFor(x api.LoopLines) ([]int, api.Errno) {
	k := lines{x}
	if e := firstError(k.check, func() api.Errno { return refuse(!k.fade(), api.ErrUnstable)() }); e != api.OK {
		return nil, e
	}
	return k.weights(), api.OK
}
