package filter_test

import (
	"math/rand"
	"testing"

	"shoebox/api"
	"shoebox/filter"
)

// P6.3: coefficients are the nearest ones, halves up, and the first three are B.
func TestQuantised(t *testing.T) {
	s, e := filter.Quantised([5]api.Frac{frac(1, 3), frac(-1, 3), frac(0, 1), frac(1, 2), frac(2, 1)})
	wantSame(t, "Quantised", s, e, section(5461, -5461, 0, 8192, 32768), api.OK)
	for _, c := range []struct {
		f    api.Frac
		want int
	}{
		{frac(1, 32768), 1}, {frac(-1, 32768), 0}, {frac(3, 32768), 2}, {frac(-3, 32768), -1}, {frac(1, 32769), 0}, {frac(1, 32767), 1},
		{frac(-1, 32767), -1}, {frac(-1, 32769), 0}, {frac(-2, 1), -mostPart}, {frac(1, billion), 0}, {frac(-1, billion), 0},
		{frac(999999999, billion), one}, {frac(billion, 999999999), one}, {frac(-billion, 999999999), -one}, {frac(-billion, 500000001), -mostPart},
		{frac(65535, 32768), mostPart}, {frac(-65537, 32768), -mostPart}, {frac(131073, 65537), mostPart}, {frac(0, 1), 0}, {frac(7, 5), 22938},
		{frac(billion, 499999999), mostPart}, {frac(-billion, 499999999), -mostPart},
	} {
		s, e := filter.Quantised([5]api.Frac{frac(0, 1), c.f, frac(0, 1), frac(0, 1), c.f})
		wantSame(t, "Quantised", s, e, section(0, c.want, 0, 0, c.want), api.OK)
	}
}

// P6.3: the same as in fractions without a bound.
func TestQuantisedSlowly(t *testing.T) {
	r := rand.New(rand.NewSource(64))
	for range 3000 {
		var l [5]api.Frac
		var want [5]int
		wrong := api.OK
		for i := range l {
			den := anyOf(r, 1, 2, 3, 1<<between(r, 0, 17), between(r, 1, 100), between(r, 1, billion), 32768*between(r, 1, 30000))
			x := rat(max(-billion, min(billion, anyOf(r, between(r, -2*den, 2*den), between(r, -10, 10)))), den)
			l[i] = frac(int(x.Num().Int64()), int(x.Denom().Int64()))
			want[i] = rounded(times(x, rat(one, 1)))
			if sizeOf(want[i]) > mostPart {
				wrong = api.ErrLarge
			}
		}
		if wrong != api.OK {
			want = [5]int{}
		}
		s, e := filter.Quantised(l)
		wantSame(t, "Quantised", s, e, section(want[0], want[1], want[2], want[3], want[4]), wrong)
	}
}

// P6.3: what is wrong with a fraction, and in which order.
func TestQuantisedErrors(t *testing.T) {
	form := []api.Frac{
		{}, frac(1, 0), frac(0, 2), frac(2, 2), frac(2, 4), frac(-2, 4), frac(1, -1), frac(-1, -1), frac(0, -1), frac(5, leastInt), frac(leastInt, leastInt),
		frac(leastInt, 2), frac(2*billion, 2), frac(2, 4*billion), frac(leastInt, 0), frac(greatestInt, greatestInt), frac(6, 3), frac(100000, 100000),
	}
	large := []api.Frac{
		frac(billion+1, 1), frac(1, billion+1), frac(-billion-1, 1), frac(leastInt, 1), frac(greatestInt, 1), frac(1, greatestInt), frac(leastInt, greatestInt),
		frac(-billion-1, billion), frac(billion, billion+1),
	}
	great := []api.Frac{frac(3, 1), frac(-3, 1), frac(65537, 32768), frac(-65539, 32768), frac(-32769, 16384), frac(32769, 16384), frac(billion, 1), frac(-billion, 1)}
	for want, l := range map[api.Errno][]api.Frac{api.ErrForm: form, api.ErrRange: large, api.ErrLarge: great} {
		for _, f := range l {
			for at := range 5 {
				all := [5]api.Frac{frac(1, 1), frac(1, 2), frac(1, 3), frac(1, 4), frac(1, 5)}
				all[at] = f
				s, e := filter.Quantised(all)
				wantWrong(t, "Quantised", s, e, want)
				for behind := at + 1; behind < 5; behind++ { // the first one with an error decides
					all[behind] = form[0]
				}
				s, e = filter.Quantised(all)
				wantWrong(t, "Quantised with more errors", s, e, want)
			}
		}
	}
}
