package pulse_test

import (
	"math"
	"math/rand"
	"slices"
	"testing"

	"shoebox/api"
	"shoebox/pulse"
)

// P4.8: means, rounded to the nearest whole number, halves up.
func TestAveraged(t *testing.T) {
	for _, c := range []struct {
		name string
		l    [][]complex64
		want []complex64
	}{
		{"the example", [][]complex64{{1}, {2 + 1i}}, numbers(2 + 1i)},
		{"one recording", [][]complex64{{5 - 7i, -3}}, numbers(5-7i, -3)},
		{"halves below 0", [][]complex64{{-1 - 3i}, {-2 - 4i}}, numbers(-1 - 3i)},
		{"a half below 0", [][]complex64{{-1 - 1i}, {0}}, numbers(0)},
		{"a half above 0", [][]complex64{{1 + 1i}, {0}}, numbers(1 + 1i)},
		{"thirds", [][]complex64{{1 - 1i}, {0}, {0}}, numbers(0)},
		{"two thirds", [][]complex64{{1 - 1i}, {1 - 1i}, {0}}, numbers(1 - 1i)},
		{"quarters", [][]complex64{{5 - 5i}, {4 - 4i}, {4 - 4i}, {4 - 4i}}, numbers(4 - 4i)},
		{"three quarters", [][]complex64{{5 - 5i}, {5 - 5i}, {5 - 5i}, {4 - 4i}}, numbers(5 - 5i)},
		{"number by number", [][]complex64{{1, 2i, 30}, {3, 4i, 50}}, numbers(2, 3i, 40)},
		{"the greatest parts", slices.Repeat([][]complex64{{most - most*1i}}, 32), numbers(most - most*1i)},
		{"the greatest part but one", [][]complex64{{most - most*1i}, {most - 1 - (most-1)*1i}}, numbers(most - (most-1)*1i)},
		{"that floats would round", [][]complex64{{most}, {1}, {1}, {-most}}, numbers(1)},
	} {
		l, e := pulse.Averaged(c.l)
		wantNumbers(t, c.name, l, e, c.want, api.OK)
	}
}

// P4.8: means as they follow from the definition: at most a half off, and a half below alone.
func TestAveragedSlowly(t *testing.T) {
	r := rand.New(rand.NewSource(18))
	for takes := 1; takes <= 32; takes++ {
		size := list(2, 50, most)[takes%3]
		var l [][]complex64
		sums := make([][2]int, 30)
		for range takes {
			take := anyNumbers(r, 30, size)
			for i, c := range take {
				sums[i][0] += int(real(c))
				sums[i][1] += int(imag(c))
			}
			l = append(l, take)
		}
		means, e := pulse.Averaged(l)
		if e != api.OK || len(means) != 30 {
			t.Fatalf("%d recordings: %v, error %d", takes, means, e)
		}
		for i, c := range means {
			for k, part := range list(int(real(c)), int(imag(c))) {
				if off := 2 * (part*takes - sums[i][k]); off <= -takes || off > takes {
					t.Errorf("%d recordings, the sum %d: %d", takes, sums[i][k], part)
				}
			}
		}
	}
}

// P4.8: the errors of means.
func TestAveragedErrors(t *testing.T) {
	for _, c := range []struct {
		name string
		l    [][]complex64
		want api.Errno
	}{
		{"none", nil, api.ErrShape},
		{"none, empty", [][]complex64{}, api.ErrShape},
		{"as many as can be", slices.Repeat([][]complex64{{1}}, 32), api.OK},
		{"too many", slices.Repeat([][]complex64{{1}}, 33), api.ErrLarge},
		{"too many wrong ones", slices.Repeat([][]complex64{nil}, 33), api.ErrLarge},
		{"an empty one", [][]complex64{{}}, api.ErrShape},
		{"an empty one behind another", [][]complex64{{1}, nil}, api.ErrShape},
		{"one too few", [][]complex64{{1, 2}, {1}}, api.ErrClash},
		{"one too many", [][]complex64{{1}, {1, 2}}, api.ErrClash},
		{"not as many as the first one", [][]complex64{{1}, {1}, {1, 2}}, api.ErrClash},
		{"not whole, and too few", [][]complex64{{1, 2}, {0.5}}, api.ErrWhole},
		{"too few ahead of not whole", [][]complex64{{1, 2}, {1}, {0.5, 1}}, api.ErrClash},
		{"not whole ahead of too few", [][]complex64{{1, 2}, {0.5, 1}, {1}}, api.ErrWhole},
		{"the first one ahead of all", [][]complex64{{1, most * 2}, {0.5}, nil}, api.ErrRange},
	} {
		l, e := pulse.Averaged(c.l)
		wantErrno(t, c.name, e, c.want)
		if e != api.OK && len(l) > 0 {
			t.Errorf("%s: %v", c.name, l)
		}
	}
}

// P4.8: both ears.
func TestEars(t *testing.T) {
	h := numbers(1-2i, 32767-32767i, -32767+32767i, complex(minusZero(), 5), complex(5, minusZero()))
	for _, rate := range list(8000, 44100, 192000) {
		ears, e := pulse.Ears(h, rate)
		for i, want := range [][]float32{{1, 32767, -32767, 0, 5}, {-2, -32767, 32767, 5, 0}} {
			if ears[i].Rate != rate || !slices.Equal(ears[i].Samples, want) || e != api.OK || slices.ContainsFunc(ears[i].Samples, isMinusZero) {
				t.Errorf("at %d: %v, error %d", rate, ears[i], e)
			}
		}
	}
	ears, e := pulse.Ears(make([]complex64, 1024), 48000)
	if len(ears[0].Samples) != 1024 || len(ears[1].Samples) != 1024 || e != api.OK {
		t.Errorf("as many as can be: %d and %d, error %d", len(ears[0].Samples), len(ears[1].Samples), e)
	}
}

// P4.8: the errors of ears.
func TestEarsErrors(t *testing.T) {
	for _, c := range []struct {
		name string
		h    []complex64
		rate int
		want api.Errno
	}{
		{"too slow", numbers(1), 7999, api.ErrRange},
		{"too fast", numbers(1), 192001, api.ErrRange},
		{"the least rate of all", numbers(1), leastInt, api.ErrRange},
		{"the greatest rate of all", numbers(1), greatestInt, api.ErrRange},
		{"the rate ahead of too large", numbers(32768), 0, api.ErrRange},
		{"the list ahead of the rate", numbers(0.5), 0, api.ErrWhole},
		{"the list ahead of too large", numbers(32768, 0.5), 48000, api.ErrWhole},
		{"too large", numbers(0, 32768), 48000, api.ErrLarge},
		{"too large below", numbers(0, -32768), 48000, api.ErrLarge},
		{"too large, imaginary", numbers(0, 32768i), 48000, api.ErrLarge},
		{"too large below, imaginary", numbers(-32768i), 48000, api.ErrLarge},
		{"the most of all", numbers(most + most*1i), 48000, api.ErrLarge},
	} {
		ears, e := pulse.Ears(c.h, c.rate)
		wantErrno(t, c.name, e, c.want)
		if ears[0].Rate+ears[1].Rate != 0 || len(ears[0].Samples)+len(ears[1].Samples) > 0 {
			t.Errorf("%s: %v", c.name, ears)
		}
	}
}

// long is a list with one number too many.
func long(c complex64) []complex64 { return slices.Repeat(numbers(c), 1025) }

// wrongLists is lists of complex numbers with their first error.
func wrongLists() map[api.Errno][][]complex64 {
	nan, inf := float32(math.NaN()), float32(math.Inf(1))
	least := float32(math.SmallestNonzeroFloat32)
	return map[api.Errno][][]complex64{
		api.ErrShape: {nil, {}},
		api.ErrLarge: {long(0), long(1), long(0.5), long(complex(nan, nan)), long(2 * most)},
		api.ErrWhole: {
			{0.5}, {0.5i}, {1, 2, 3.25}, {complex(nan, 0)}, {complex(0, nan)}, {complex(inf, 0)}, {complex(0, inf)}, {complex(-inf, 0)}, {complex(0, -inf)},
			{complex(least, 0)}, {complex(0, -least)}, {-0.5}, {-1.5i}, {most/2 - 0.5}, {2*most + 0.5i}, {0.5 + 2*most*1i}, {0.5, 2 * most},
		},
		api.ErrRange: {
			{most + 2}, {-most - 2}, {(most + 2) * 1i}, {(-most - 2) * 1i}, {1, 2, 3, most + 2}, {2 * most, 0.5}, {most + 2, complex(nan, 0)},
			{complex(math.MaxFloat32, 0)}, {complex(0, -math.MaxFloat32)}, {1e20 + 1e20i},
		},
		api.OK: {{0}, {most}, {-most}, {most * 1i}, {-most * 1i}, {most - 1}, {complex(minusZero(), minusZero())}, make([]complex64, 1024)},
	}
}

// P4.4, P4.6, P4.7, P4.8: the errors of lists of complex numbers, in every function that takes one; they come first, and with them nothing else.
func TestListErrors(t *testing.T) {
	one := numbers(1)
	for want, lists := range wrongLists() {
		for _, l := range lists {
			for name, f := range map[string]func(period int, r api.PulseRegister) ([]complex64, api.Errno){
				"Folded":   func(period int, _ api.PulseRegister) ([]complex64, api.Errno) { return pulse.Folded(l, period) },
				"Excited":  func(_ int, r api.PulseRegister) ([]complex64, api.Errno) { return pulse.Excited(l, r, 1) },
				"Unfolded": func(_ int, r api.PulseRegister) ([]complex64, api.Errno) { return pulse.Unfolded(l, r, 1) },
				"UnfoldedIn": func(_ int, r api.PulseRegister) ([]complex64, api.Errno) {
					return pulse.UnfoldedIn(l, started(r, 1), field(7, 2, 3))
				},
				"Swept":    func(_ int, r api.PulseRegister) ([]complex64, api.Errno) { return pulse.Swept(l, wrongOr(one, r)) },
				"by Swept": func(int, api.PulseRegister) ([]complex64, api.Errno) { return pulse.Swept(one, l) },
				"Divided":  func(_ int, r api.PulseRegister) ([]complex64, api.Errno) { return pulse.Divided(l, wrongOr(one, r)) },
				"Averaged": func(int, api.PulseRegister) ([]complex64, api.Errno) { return pulse.Averaged([][]complex64{l, l}) },
			} {
				testList(t, name, want, func(isRight bool) ([]complex64, api.Errno) {
					if isRight {
						return f(1, two())
					}
					return f(0, register(1))
				})
			}
			_, e := pulse.Divided(one, l)
			if want != api.OK || e != api.ErrKind {
				wantErrno(t, "by Divided", e, want)
			}
			ears, e := pulse.Ears(l, 8000)
			if want != api.OK || e != api.ErrLarge {
				wantErrno(t, "Ears", e, want)
			}
			if e != api.OK && len(ears[0].Samples)+len(ears[1].Samples) > 0 {
				t.Errorf("Ears: %v beside %d", ears, e)
			}
		}
	}
}

// wrongOr is a list that is wrong if a register is.
func wrongOr(l []complex64, r api.PulseRegister) []complex64 {
	if len(r.Taps) == 0 {
		return nil
	}
	return l
}

// testList tests that the error of a list is there, be the other arguments right or wrong; and that no such error comes from a right list.
func testList(t *testing.T, name string, want api.Errno, f func(isRight bool) ([]complex64, api.Errno)) {
	t.Helper()
	for _, isRight := range []bool{true, false} {
		l, e := f(isRight)
		if want != api.OK {
			wantNumbers(t, name, l, e, nil, want)
		} else if isRight && e != api.OK && e != api.ErrClash && e != api.ErrProof {
			t.Errorf("%s: error %d of a right list", name, e)
		}
	}
}
