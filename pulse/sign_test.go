package pulse_test

import (
	"math/rand"
	"slices"
	"testing"

	"shoebox/api"
	"shoebox/pulse"
)

// P4.3: the example.
func TestSignsOfTheExample(t *testing.T) {
	l, e := pulse.Signs(two(), 1)
	wantInts(t, "signs", l, e, list(-1, 1, -1))
	for lag, want := range map[int]int{0: 3, 1: -1, 2: -1, 3: 3, -1: -1, -3: 3, 999999999: 3, 1000000000: -1, -1000000000: -1} {
		if n, e := pulse.Correlation(l, l, lag); n != want || e != api.OK {
			t.Errorf("at %d: %d, error %d, want %d", lag, n, e, want)
		}
	}
}

// P4.3: signs as they follow from the definition, N of them also if the register is not maximal.
func TestSignsSlowly(t *testing.T) {
	r := rand.New(rand.NewSource(2))
	for _, x := range allRegisters() {
		start := anyStart(r, x)
		l, e := pulse.Signs(x, start)
		wantInts(t, "signs", l, e, slowSigns(x, start))
	}
}

// P4.3: correlations.
func TestCorrelation(t *testing.T) {
	a, b := list(1, 20, 300), list(2, 3, 5)
	for lag, want := range map[int]int{0: 1562, 1: 703, 2: 945, 3: 1562, 4: 703, -1: 945, -2: 703, -3: 1562, -1000000000: 945, 1000000000: 703} {
		if n, e := pulse.Correlation(a, b, lag); n != want || e != api.OK {
			t.Errorf("at %d: %d, error %d, want %d", lag, n, e, want)
		}
	}
	great := slices.Repeat([]int{most}, 1024)
	if n, e := pulse.Correlation(great, great, 1000000000); n != 1<<58 || e != api.OK {
		t.Errorf("the greatest numbers: %d, error %d", n, e)
	}
	if n, e := pulse.Correlation(list(-most), list(most), -5); n != -1<<48 || e != api.OK {
		t.Errorf("the least number: %d, error %d", n, e)
	}
}

// P4.3: the errors of correlations.
func TestCorrelationErrors(t *testing.T) {
	long := make([]int, 1025)
	for _, c := range []struct {
		name string
		a, b []int
		lag  int
		want api.Errno
	}{
		{"nothing", nil, nil, 0, api.ErrShape},
		{"nothing, empty", list(), list(), 0, api.ErrShape},
		{"nothing against something", nil, list(1), 0, api.ErrShape},
		{"something against nothing", list(1), nil, 0, api.ErrShape},
		{"one too few", list(1, 2), list(1), 0, api.ErrShape},
		{"one too many", list(1), list(1, 2), 0, api.ErrShape},
		{"shapes ahead of sizes", long, long[1:], 0, api.ErrShape},
		{"shapes ahead of numbers", list(most + 1), nil, 0, api.ErrShape},
		{"too many", long, long, 0, api.ErrLarge},
		{"too many ahead of numbers", append([]int{most + 1}, long...), append([]int{0}, long...), 0, api.ErrLarge},
		{"too many ahead of lags", long, long, leastInt, api.ErrLarge},
		{"as many as can be", long[1:], long[1:], 0, api.OK},
		{"a number of the first list", list(0, most+1), list(0, 0), 0, api.ErrRange},
		{"a least number of the first list", list(0, -most-1), list(0, 0), 0, api.ErrRange},
		{"a number of the second list", list(0, 0), list(0, most+1), 0, api.ErrRange},
		{"a least number of the second list", list(0, 0), list(-most-1, 0), 0, api.ErrRange},
		{"the least number of all", list(leastInt), list(leastInt), 0, api.ErrRange},
		{"the greatest number of all", list(1), list(greatestInt), 0, api.ErrRange},
		{"the greatest numbers", list(0, most, -most), list(most, 0, -most), 1, api.OK},
		{"a lag", list(1), list(1), 1000000001, api.ErrRange},
		{"a least lag", list(1), list(1), -1000000001, api.ErrRange},
		{"the least lag of all", list(1), list(1), leastInt, api.ErrRange},
		{"the greatest lag of all", list(1), list(1), greatestInt, api.ErrRange},
	} {
		n, e := pulse.Correlation(c.a, c.b, c.lag)
		wantErrno(t, c.name, e, c.want)
		if e != api.OK && n != 0 {
			t.Errorf("%s: %d", c.name, n)
		}
	}
}

// P4.10: the signs of a maximal register add up to -1, and correlate with N or -1.
func TestMaximalSigns(t *testing.T) {
	r := rand.New(rand.NewSource(3))
	for _, x := range maximalRegisters() {
		n := full(x)
		l, _ := pulse.Signs(x, anyStart(r, x))
		total := 0
		for _, sign := range l {
			total += sign
		}
		if total != -1 || len(l) != n {
			t.Errorf("%v: %d signs come to %d", x, len(l), total)
		}
		for lag := -2 * n; lag <= 2*n; lag++ {
			want := -1
			if lag%n == 0 {
				want = n
			}
			if c, e := pulse.Correlation(l, l, lag); c != want || e != api.OK {
				t.Fatalf("%v at %d: %d, error %d, want %d", x, lag, c, e, want)
			}
		}
	}
}
