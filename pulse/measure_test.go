package pulse_test

import (
	"math/rand"
	"slices"
	"testing"

	"shoebox/api"
	"shoebox/pulse"
)

// P4.4: the example, folded, excited and unfolded.
func TestMeasuringOfTheExample(t *testing.T) {
	h, y := numbers(4, -1+2i), numbers(-3-2i, 5-2i, -5+2i)
	l, e := pulse.Excited(h, two(), 1)
	wantNumbers(t, "excited", l, e, y, api.OK)
	l, e = pulse.Unfolded(y, two(), 1)
	wantNumbers(t, "unfolded", l, e, numbers(4, -1+2i, 0), api.OK)
	l, e = pulse.Folded(h, 3)
	wantNumbers(t, "folded", l, e, numbers(4, -1+2i, 0), api.OK)
}

// P4.4: folded responses.
func TestFolded(t *testing.T) {
	h := numbers(1, 2i, 3-1i, 40, 50+5i)
	for _, c := range []struct {
		period int
		want   []complex64
		err    api.Errno
	}{
		{1, numbers(94 + 6i), api.OK},
		{2, numbers(54+4i, 40+2i), api.OK},
		{3, numbers(41, 50+7i, 3-1i), api.OK},
		{4, numbers(51+5i, 2i, 3-1i, 40), api.OK},
		{5, h, api.OK},
		{7, append(slices.Clone(h), 0, 0), api.OK},
		{1024, append(slices.Clone(h), make([]complex64, 1019)...), api.OK},
		{0, nil, api.ErrRange},
		{-1, nil, api.ErrRange},
		{1025, nil, api.ErrRange},
		{leastInt, nil, api.ErrRange},
		{greatestInt, nil, api.ErrRange},
	} {
		l, e := pulse.Folded(h, c.period)
		wantNumbers(t, "folded", l, e, c.want, c.err)
	}
}

// P4.4: folded responses that are too large, also where a float would be rounded to one that is not.
func TestFoldedTooLarge(t *testing.T) {
	for _, c := range []struct {
		name string
		h    []complex64
		want []complex64
		err  api.Errno
	}{
		{"the greatest part", numbers(most-1, 1), numbers(most), api.OK},
		{"the least part", numbers(1-most, -1), numbers(-most), api.OK},
		{"the greatest imaginary part", numbers((most-1)*1i, 1i), numbers(most * 1i), api.OK},
		{"one more", numbers(most, 1), nil, api.ErrLarge},
		{"one less", numbers(-most, -1), nil, api.ErrLarge},
		{"one more of an imaginary part", numbers(most*1i, 1i), nil, api.ErrLarge},
		{"one less of an imaginary part", numbers(-most*1i, -1i), nil, api.ErrLarge},
		{"too large on the way alone", numbers(most, most, -most), numbers(most), api.OK},
		{"numbers that floats do not tell apart", numbers(most, 1, 1, -2), numbers(most), api.OK},
		{"the most of all", slices.Repeat(numbers(most+most*1i), 1024), nil, api.ErrLarge},
	} {
		l, e := pulse.Folded(c.h, 1)
		wantNumbers(t, c.name, l, e, c.want, c.err)
	}
	l, e := pulse.Folded(numbers(0, most, 0, most), 2)
	wantNumbers(t, "the second number", l, e, nil, api.ErrLarge)
}

// P4.4: excited recordings that are too large, or the folded responses are.
func TestExcitedTooLarge(t *testing.T) {
	gap := make([]complex64, 5)
	for _, c := range []struct {
		name  string
		h     []complex64
		r     api.PulseRegister
		start int
		want  []complex64
		err   api.Errno
	}{
		{"the greatest parts", numbers(most), two(), 1, numbers(-most, most, -most), api.OK},
		{"the greatest imaginary parts", numbers(most * 1i), two(), 1, numbers(-most*1i, most*1i, -most*1i), api.OK},
		{"one more", numbers(most, -1), two(), 1, nil, api.ErrLarge},
		{"one more of an imaginary part", numbers(most*1i, 1i), two(), 1, nil, api.ErrLarge},
		{"the folded response and the recording", numbers(most, 0, 0, 1), two(), 1, nil, api.ErrLarge},
		{"the folded response alone", slices.Concat(numbers(most, -most), gap, numbers(most, -most)), turning(), 7, nil, api.ErrLarge},
		{"as large as it can be", slices.Concat(numbers(most, -most), gap), turning(), 7, make([]complex64, 7), api.OK},
		{"many", slices.Repeat(numbers(most), 255), register(8, 1, 2, 7, 8), 1, slices.Repeat(numbers(-most), 255), api.OK},
		{"the most of all", slices.Repeat(numbers(most), 7), turning(), 7, nil, api.ErrLarge},
	} {
		l, e := pulse.Excited(c.h, c.r, c.start)
		wantNumbers(t, c.name, l, e, c.want, c.err)
	}
}

// P4.4: folded and excited responses as they follow from the definitions, also of registers that are not maximal.
func TestMeasuringSlowly(t *testing.T) {
	r := rand.New(rand.NewSource(4))
	for i, x := range allRegisters() {
		if x.Length == 8 && i%9 != 0 {
			continue
		}
		size := list(1, 1000, 100000, most)[i%4]
		h := anyNumbers(r, 1+r.Intn(40), size)
		if i%10 == 0 {
			h = anyNumbers(r, 1024, 2000)
		}
		start, period := anyStart(r, x), 1+r.Intn(50)
		l, e := pulse.Folded(h, period)
		want, wrong := slowFolded(h, period)
		wantNumbers(t, "folded", l, e, want, wrong)
		l, e = pulse.Excited(h, x, start)
		want, wrong = slowExcited(h, x, start)
		wantNumbers(t, "excited", l, e, want, wrong)
	}
}

// P4.4: the errors of what is unfolded.
func TestUnfoldedErrors(t *testing.T) {
	y := numbers(-3-2i, 5-2i, -5+2i)
	for _, c := range []struct {
		name string
		y    []complex64
		r    api.PulseRegister
		want api.Errno
	}{
		{"the example", y, two(), api.OK},
		{"too few", y[:2], two(), api.ErrClash},
		{"too many", append(slices.Clone(y), 0), two(), api.ErrClash},
		{"twice as many", slices.Repeat(y, 2), two(), api.ErrClash},
		{"as many as the period of a register that is not maximal", y, turning(), api.ErrState},
		{"as many as N of a register that is not maximal", make([]complex64, 7), turning(), api.ErrState},
		{"as many as N of one with a longer period than 1", make([]complex64, 7), register(3, 1, 2, 3), api.ErrState},
		{"halves", numbers(1, 0, 0), two(), api.ErrProof},
		{"one real part is not whole", numbers(-3-2i, 5-2i, -4+2i), two(), api.ErrProof},
		{"one imaginary part is not whole", numbers(-3-2i, 5-2i, -5+3i), two(), api.ErrProof},
		{"no halves", numbers(2, 0, 0), two(), api.OK},
		{"a sum that is whole", numbers(1, 1, 2), two(), api.ErrProof},
		{"the greatest numbers", numbers(most+most*1i, most+most*1i, most+most*1i), two(), api.OK},
		{"the least numbers", numbers(-most-most*1i, -most-most*1i, -most-most*1i), two(), api.OK},
	} {
		l, e := pulse.Unfolded(c.y, c.r, 1)
		wantErrno(t, c.name, e, c.want)
		if (e == api.OK) != (len(l) > 0) {
			t.Errorf("%s: %v, error %d", c.name, l, e)
		}
	}
}

// P4.4: all small recordings have a response with whole parts, or are refused.
func TestUnfoldedOfAll(t *testing.T) {
	const size = 5
	responses := map[[3]int][]complex64{}
	for n := range (2*size + 1) * (2*size + 1) * (2*size + 1) {
		h := numbers(both(n%11-size, 0), both(n/11%11-size, 0), both(n/121-size, 0))
		y, _ := slowExcited(h, two(), 3)
		responses[[3]int{int(real(y[0])), int(real(y[1])), int(real(y[2]))}] = h
	}
	for n := range 11 * 11 * 11 {
		y := [3]int{n%11 - size, n/11%11 - size, n/121 - size}
		h, isThere := responses[y]
		wrong := api.OK
		if !isThere {
			wrong = api.ErrProof
		}
		l, e := pulse.Unfolded(numbers(both(y[0], 0), both(y[1], 0), both(y[2], 0)), two(), 3)
		wantNumbers(t, "unfolded", l, e, h, wrong)
	}
}

// P4.4: the error of the start comes ahead of that of a register that is not maximal, and this one ahead of others.
func TestUnfoldedErrorsInOrder(t *testing.T) {
	seven := make([]complex64, 7)
	l, e := pulse.Unfolded(seven, turning(), 8)
	wantNumbers(t, "the start", l, e, nil, api.ErrRange)
	l, e = pulse.Unfolded(seven[:2], turning(), 7)
	wantNumbers(t, "not maximal", l, e, nil, api.ErrState)
	l, e = pulse.Unfolded(numbers(1, 0), two(), 3)
	wantNumbers(t, "how many numbers", l, e, nil, api.ErrClash)
}

// P4.11: what is unfolded is the response, folded to N.
func TestUnfoldedExactly(t *testing.T) {
	r := rand.New(rand.NewSource(5))
	for i, x := range maximalRegisters() {
		for range 4 {
			h := anyNumbers(r, 1+r.Intn(2*full(x)), list(3, 60000)[i%2]) // 2 or more numbers, folded, do not exceed any limit
			start := anyStart(r, x)
			y, e := pulse.Excited(h, x, start)
			if e == api.ErrLarge && slowIsLarge(h, x, start) {
				continue
			}
			want, _ := slowFolded(h, full(x))
			l, f := pulse.Unfolded(y, x, start)
			wantNumbers(t, "unfolded", l, f, want, e)
		}
	}
	great := numbers(most-most*1i, 0, 0, 0, 0, 0, 0)
	y, _ := pulse.Excited(great, register(3, 1, 3), 5)
	l, e := pulse.Unfolded(y, register(3, 1, 3), 5)
	wantNumbers(t, "the greatest number", l, e, great, api.OK)
}

func slowIsLarge(h []complex64, r api.PulseRegister, start int) bool {
	_, e := slowExcited(h, r, start)
	return e == api.ErrLarge
}

// P4.13: responses add up in all that is folded, excited and swept.
func TestResponsesAddUp(t *testing.T) {
	r := rand.New(rand.NewSource(6))
	for _, x := range maximalRegisters() {
		count, start, period := 1+r.Intn(60), anyStart(r, x), 1+r.Intn(70)
		a, b, sweep := anyNumbers(r, count, 1000), anyNumbers(r, count, 1000), anyNumbers(r, 1+r.Intn(9), 9)
		for name, measure := range map[string]func(h []complex64) ([]complex64, api.Errno){
			"folded":  func(h []complex64) ([]complex64, api.Errno) { return pulse.Folded(h, period) },
			"excited": func(h []complex64) ([]complex64, api.Errno) { return pulse.Excited(h, x, start) },
			"swept":   func(h []complex64) ([]complex64, api.Errno) { return pulse.Swept(h, sweep) },
		} {
			first, _ := measure(a)
			second, _ := measure(b)
			l, e := measure(sumOf(a, b))
			wantNumbers(t, name, l, e, sumOf(first, second), api.OK)
		}
	}
}
