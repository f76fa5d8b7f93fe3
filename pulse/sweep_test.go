package pulse_test

import (
	"math/rand"
	"slices"
	"testing"

	"shoebox/api"
	"shoebox/pulse"
)

// P4.7: chirps.
func TestChirp(t *testing.T) {
	for _, c := range []struct {
		count, slow int
		want        []complex64
		err         api.Errno
	}{
		{6, 2, numbers(1, 1, 1i, -1, 1, -1), api.OK},
		{1, 1, numbers(1), api.OK},
		{6, 1, numbers(1, 1i, -1i, -1, -1, -1i), api.OK},
		{9, 4, numbers(1, 1, 1, 1, 1i, -1, -1i, 1, -1), api.OK},
		{5, 1000, numbers(1, 1, 1, 1, 1), api.OK},
		{1002, 1000, append(slices.Repeat(numbers(1), 1000), 1i, -1), api.OK},
		{0, 1, nil, api.ErrRange},
		{-1, 1, nil, api.ErrRange},
		{1025, 1, nil, api.ErrRange},
		{leastInt, 1, nil, api.ErrRange},
		{greatestInt, 1, nil, api.ErrRange},
		{6, 0, nil, api.ErrRange},
		{6, -1, nil, api.ErrRange},
		{6, 1001, nil, api.ErrRange},
		{6, leastInt, nil, api.ErrRange},
		{6, greatestInt, nil, api.ErrRange},
		{0, 0, nil, api.ErrRange},
	} {
		l, e := pulse.Chirp(c.count, c.slow)
		wantNumbers(t, "chirp", l, e, c.want, c.err)
	}
}

// P4.7: chirps as they follow from the definition, as long as can be.
func TestChirpSlowly(t *testing.T) {
	for slow := 1; slow <= 1000; slow += 37 {
		var want []complex64
		for n := range 1024 {
			turns := 0
			for k := range n + 1 {
				turns += k / slow
			}
			want = append(want, []complex64{1, 1i, -1, -1i}[turns%4])
		}
		l, e := pulse.Chirp(1024, slow)
		wantNumbers(t, "chirp", l, e, want, api.OK)
	}
}

// P4.7: the example, swept and divided.
func TestSweepOfTheExample(t *testing.T) {
	h, x, y := numbers(2, 1), numbers(1, 1i), numbers(2, 1+2i, 1i)
	l, e := pulse.Swept(h, x)
	wantNumbers(t, "swept", l, e, y, api.OK)
	l, e = pulse.Divided(y, x)
	wantNumbers(t, "divided", l, e, numbers(2, 1, 0), api.OK)
}

// P4.7: how many numbers a sweep's recording has.
func TestSweptLengths(t *testing.T) {
	for _, c := range []struct {
		h, x int
		want api.Errno
	}{
		{1, 1, api.OK},
		{1, 1024, api.OK},
		{1024, 1, api.OK},
		{512, 513, api.OK},
		{513, 513, api.ErrLarge},
		{2, 1024, api.ErrLarge},
		{1024, 2, api.ErrLarge},
		{1024, 1024, api.ErrLarge},
	} {
		l, e := pulse.Swept(make([]complex64, c.h), make([]complex64, c.x))
		wantNumbers(t, "swept", l, e, make([]complex64, c.h+c.x-1), c.want)
	}
}

// P4.7: the errors of both lists come ahead of that of too many numbers.
func TestSweptErrorsInOrder(t *testing.T) {
	long := make([]complex64, 1024)
	l, e := pulse.Swept(long, numbers(1, 0.5))
	wantNumbers(t, "the second list", l, e, nil, api.ErrWhole)
	l, e = pulse.Swept(numbers(1, 2*most), long)
	wantNumbers(t, "the first list", l, e, nil, api.ErrRange)
	l, e = pulse.Swept(numbers(2*most), numbers(0.5))
	wantNumbers(t, "both lists", l, e, nil, api.ErrRange)
}

// P4.7: sweep's recordings that are too large, also where floats would be rounded.
func TestSweptTooLarge(t *testing.T) {
	great := slices.Repeat(numbers(most+most*1i), 512)
	for _, c := range []struct {
		name string
		h, x []complex64
		want []complex64
		err  api.Errno
	}{
		{"the greatest part", numbers(4096), numbers(4096), numbers(most), api.OK},
		{"the least part", numbers(4096i), numbers(4096i), numbers(-most), api.OK},
		{"the greatest imaginary part", numbers(4096), numbers(4096i), numbers(most * 1i), api.OK},
		{"the least imaginary part", numbers(-4096), numbers(4096i), numbers(-most * 1i), api.OK},
		{"one more", numbers(24929), numbers(673), nil, api.ErrLarge},
		{"one less", numbers(24929i), numbers(673i), nil, api.ErrLarge},
		{"one more of an imaginary part", numbers(24929), numbers(673i), nil, api.ErrLarge},
		{"one less of an imaginary part", numbers(24929), numbers(-673i), nil, api.ErrLarge},
		{"one more in a sum", numbers(4096, 1), numbers(1, 4096), nil, api.ErrLarge},
		{"the last number", numbers(0, 24929), numbers(0, 673), nil, api.ErrLarge},
		{"one more on the way alone", numbers(-most, 1, -1), numbers(1, 1, -1), numbers(-most, 1-most, most, -2, 1), api.OK},
		{"imaginary, on the way alone", numbers(-most*1i, 1i, -1i), numbers(1, 1, -1), numbers(-most*1i, (1-most)*1i, most*1i, -2i, 1i), api.OK},
		{"the most of all", great, great, nil, api.ErrLarge},
		{"nothing of the most", great, numbers(0), make([]complex64, 512), api.OK},
	} {
		l, e := pulse.Swept(c.h, c.x)
		wantNumbers(t, c.name, l, e, c.want, c.err)
		l, e = pulse.Swept(c.x, c.h)
		wantNumbers(t, c.name+", the other way round", l, e, c.want, c.err)
	}
}

// P4.7: sweep's recordings as they follow from the definition.
func TestSweptSlowly(t *testing.T) {
	r := rand.New(rand.NewSource(15))
	for range 300 {
		h, x := anyNumbers(r, 1+r.Intn(30), list(2, 1000, most)[r.Intn(3)]), anyNumbers(r, 1+r.Intn(30), list(2, 500)[r.Intn(2)])
		l, e := pulse.Swept(h, x)
		want, wrong := slowSwept(h, x)
		wantNumbers(t, "swept", l, e, want, wrong)
		l, e = pulse.Swept(x, h)
		wantNumbers(t, "swept the other way round", l, e, want, wrong)
	}
}

// P4.7: what a sweep may begin with.
func TestDividedBegins(t *testing.T) {
	y := numbers(3+4i, 5-6i)
	for _, c := range []struct {
		first complex64
		want  []complex64
		err   api.Errno
	}{
		{1, numbers(3+4i, 5-6i), api.OK},
		{-1, numbers(-3-4i, -5+6i), api.OK},
		{1i, numbers(4-3i, -6-5i), api.OK},
		{-1i, numbers(-4+3i, 6+5i), api.OK},
		{complex(minusZero(), 1), numbers(4-3i, -6-5i), api.OK},
		{complex(1, minusZero()), numbers(3+4i, 5-6i), api.OK},
		{0, nil, api.ErrKind},
		{2, nil, api.ErrKind},
		{-2i, nil, api.ErrKind},
		{1 + 1i, nil, api.ErrKind},
		{1 - 1i, nil, api.ErrKind},
		{-1 + 1i, nil, api.ErrKind},
		{most + most*1i, nil, api.ErrKind},
		{-most, nil, api.ErrKind},
	} {
		l, e := pulse.Divided(y, numbers(c.first))
		wantNumbers(t, "divided", l, e, c.want, c.err)
	}
}

// P4.7: as many numbers as the recording has, of sweeps that are shorter or longer; too large ones.
func TestDivided(t *testing.T) {
	ramp := numbers(1, 1, 1, 1, 1)
	doubled := numbers(1, -2)
	for _, c := range []struct {
		name string
		y, x []complex64
		want []complex64
		err  api.Errno
	}{
		{"a longer sweep", numbers(3, 4), numbers(1, 2, 9, 9), numbers(3, -2), api.OK},
		{"a shorter sweep", numbers(1, 2, 3, 4, 5), numbers(1, 1), numbers(1, 1, 2, 2, 3), api.OK},
		{"as many", ramp, ramp, numbers(1, 0, 0, 0, 0), api.OK},
		{"nothing", make([]complex64, 1024), ramp, make([]complex64, 1024), api.OK},
		{"doubled", append(numbers(1), make([]complex64, 4)...), doubled, numbers(1, 2, 4, 8, 16), api.OK},
		{"doubled up to the greatest part", append(numbers(1), make([]complex64, 24)...), doubled, powersOfTwo(25), api.OK},
		{"doubled once more", append(numbers(1), make([]complex64, 25)...), doubled, nil, api.ErrLarge},
		{"doubled imaginary ones once more", append(numbers(1i), make([]complex64, 25)...), doubled, nil, api.ErrLarge},
		{"doubled without an end", append(numbers(1), make([]complex64, 1023)...), doubled, nil, api.ErrLarge},
		{"the greatest parts", numbers(most, most), numbers(1, -1i), numbers(most, most+most*1i), api.OK},
		{"just too large", numbers(most, 1), numbers(1, -1), nil, api.ErrLarge},
		{"just too large below", numbers(-most, -1), numbers(1, -1), nil, api.ErrLarge},
		{"just too large, imaginary", numbers(most, 1i), numbers(1, -1i), nil, api.ErrLarge},
		{"just not too large", numbers(most-1, 1), numbers(1, -1), numbers(most-1, most), api.OK},
		{"products too great for a float", numbers(most, 0), numbers(1, most), nil, api.ErrLarge},
		{"too large by far", slices.Repeat(numbers(most-most*1i), 1024), slices.Concat(numbers(1i), slices.Repeat(numbers(most+most*1i), 1023)), nil, api.ErrLarge},
	} {
		l, e := pulse.Divided(c.y, c.x)
		wantNumbers(t, c.name, l, e, c.want, c.err)
	}
}

func powersOfTwo(count int) []complex64 {
	var l []complex64
	for k := range count {
		l = append(l, both(1<<k, 0))
	}
	return l
}

// anySweep is a sweep that recordings can be divided by.
func anySweep(r *rand.Rand, count, size int) []complex64 {
	x := anyNumbers(r, count, size)
	x[0] = numbers(1, 1i, -1, -1i)[r.Intn(4)]
	return x
}

// P4.7: the response of any recording has a sweep's recording that begins with it.
func TestDividedBeginsWith(t *testing.T) {
	r := rand.New(rand.NewSource(16))
	count := 0
	for range 1000 {
		y, x := anyNumbers(r, 1+r.Intn(12), 1000), anySweep(r, 1+r.Intn(12), list(1, 2, 9)[r.Intn(3)])
		h, e := pulse.Divided(y, x)
		if e == api.ErrLarge {
			continue
		}
		count++
		back, wrong := slowSwept(h, x)
		if e != api.OK || len(h) != len(y) || wrong == api.OK && !slices.Equal(back[:len(y)], y) {
			t.Fatalf("%v by %v: %v, error %d, back %v", y, x, h, e, back)
		}
	}
	if count < 100 {
		t.Errorf("too large but for %d", count)
	}
}

// P4.13: divided, a sweep's recording is the response.
func TestDividedExactly(t *testing.T) {
	r := rand.New(rand.NewSource(17))
	for i := range 300 {
		h := anyNumbers(r, 1+r.Intn(40), 10000)
		x := anySweep(r, 1+r.Intn(40), 20)
		if i%2 == 0 {
			x, _ = pulse.Chirp(1+r.Intn(400), 1+r.Intn(9))
		}
		y, e := pulse.Swept(h, x)
		wantErrno(t, "swept", e, api.OK)
		l, e := pulse.Divided(y[:len(h)], x)
		wantNumbers(t, "divided", l, e, h, api.OK)
		l, e = pulse.Divided(y, x)
		wantNumbers(t, "divided and not cut", l, e, slices.Concat(h, make([]complex64, len(x)-1)), api.OK)
	}
	great := slices.Repeat(numbers(most-most*1i), 3)
	l, e := pulse.Divided(great, numbers(1i))
	wantNumbers(t, "the greatest parts", l, e, slices.Repeat(numbers(-most-most*1i), 3), api.OK)
}
