package pulse

import (
	"math"

	"shoebox/api"
)

// number is a complex number with whole parts: in ints, because sums of products may be greater than the whole numbers that floats can tell apart.
type number struct{ re, im int }

func (a number) plus(b number) number { return number{a.re + b.re, a.im + b.im} }
func (a number) less(b number) number { return number{a.re - b.re, a.im - b.im} }

func (a number) times(b number) number {
	return number{a.re*b.re - a.im*b.im, a.re*b.im + a.im*b.re}
}

// stretched is a number times a whole one.
func (a number) stretched(by int) number { return number{a.re * by, a.im * by} }

// conjugate of 1, i, -1 or -i is what this gives 1 with.
func (a number) conjugate() number { return number{a.re, -a.im} }

// small is the condition that both parts are at most so great in size.
func (a number) small(most int) condition {
	return refuse(!isSmall(a.re, most) || !isSmall(a.im, most), api.ErrLarge)
}

// isSmall tells whether a part is at most so great in size; NaN is not.
func isSmall[T int | float32](part, most T) bool { return -most <= part && part <= most }

func isWhole(part float32) bool {
	f := float64(part)
	return f == math.Trunc(f) && !math.IsInf(f, 0)
}

// listed is the condition that a list is one of complex numbers.
func listed(l []complex64) condition {
	return func() api.Errno {
		return firstError(
			refuse(len(l) == 0, api.ErrShape),
			refuse(len(l) > api.MaxPulseBits, api.ErrLarge),
			each(len(l), func(i int) api.Errno { return errorOf(l[i]) }),
		)
	}
}

// errorOf is the error of a complex number of a list.
func errorOf(c complex64) api.Errno {
	left, right := real(c), imag(c)
	return firstError(
		refuse(!isWhole(left) || !isWhole(right), api.ErrWhole),
		refuse(!isSmall(left, api.MaxRecording) || !isSmall(right, api.MaxRecording), api.ErrRange),
	)
}

// numberOf is a complex number that has no error.
func numberOf(c complex64) number { return number{int(real(c)), int(imag(c))} }

func numbersOf(l []complex64) []number {
	var numbers []number
	for _, c := range l {
		numbers = append(numbers, numberOf(c))
	}
	return numbers
}

// recorded is numbers as a recording, if none of them is too large for it.
func recorded(l []number) ([]complex64, api.Errno) {
	e := each(len(l), func(i int) api.Errno { return l[i].small(api.MaxRecording)() })()
	if e != api.OK {
		return nil, e
	}
	var y []complex64
	for _, n := range l {
		y = append(y, complex(float32(n.re), float32(n.im)))
	}
	return y, api.OK
}
