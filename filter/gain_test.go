package filter_test

import (
	"math/big"
	"math/rand"
	"testing"

	"shoebox/api"
	"shoebox/filter"
)

const gainOne = 1 << 20 // what stands for the gain 1

// pole is a section whose denominator is 0 at a turn of a right angle.
func pole() api.FilterSection { return section(one, 0, 0, 0, one) }

// P6.6: the gain squared of plain sections.
func TestGainSquare(t *testing.T) {
	for _, c := range []struct {
		s    api.FilterSection
		t    api.FilterTurn
		want api.Frac
	}{
		{half(), turn(1, 0, 1), frac(1, 1)}, {half(), turn(-1, 0, 1), frac(1, 9)}, {half(), turn(0, 1, 1), frac(1, 5)}, {half(), turn(0, -100, 100), frac(1, 5)},
		{half(), turn(3, 4, 5), frac(5, 13)}, {half(), turn(-3, 4, 5), frac(5, 37)}, {half(), turn(4, -3, 5), frac(5, 9)},
		{pass(), turn(60, 80, 100), frac(1, 1)}, {double(), turn(28, -96, 100), frac(4, 1)}, {fed(5, 7), turn(1, 0, 1), frac(0, 1)},
		{section(one, -one, 0, 0, 0), turn(1, 0, 1), frac(0, 1)}, {section(one, -one, 0, 0, 0), turn(-1, 0, 1), frac(4, 1)},
		{section(one, -one, 0, 0, 0), turn(0, 1, 1), frac(2, 1)}, {section(one, 0, one, 0, 0), turn(0, 1, 1), frac(0, 1)},
		{section(0, 0, -one, 0, 0), turn(3, 4, 5), frac(1, 1)}, {section(0, one, one, 0, 0), turn(3, 4, 5), frac(16, 5)},
		{section(mostPart, mostPart, mostPart, 0, 0), turn(1, 0, 1), frac(36, 1)}, {section(1, 0, 0, 0, 0), turn(0, -1, 1), frac(1, 1<<28)},
		{section(16, 0, 0, 0, one), turn(3, 4, 5), frac(25, 37748736)},
	} {
		f, e := filter.GainSquare(c.s, c.t)
		wantSame(t, "GainSquare", f, e, c.want, api.OK)
		n, e := filter.CompareGain(c.s, c.t, c.want)
		wantSame(t, "CompareGain", n, e, 0, api.OK)
	}
}

// P6.6: a gain that is not small, in its lowest terms.
func TestLargeGains(t *testing.T) {
	for _, c := range []struct {
		s    api.FilterSection
		t    api.FilterTurn
		want api.Frac
		e    api.Errno
	}{
		{section(one-1, 0, 0, 0, 0), turn(1, 0, 1), frac(16383*16383, 1<<28), api.OK},
		{section(one, 0, 0, 0, -one+1), turn(1, 0, 1), frac(1<<28, 1), api.OK},
		{section(31622, 0, 0, 0, -one+1), turn(1, 0, 1), frac(31622*31622, 1), api.OK},
		{section(31623, 0, 0, 0, -one+1), turn(1, 0, 1), api.Frac{}, api.ErrLarge},
		{section(0, 10000, 30000, 0, one-1), turn(0, 1, 1), frac(billion, 1), api.OK},
		{section(0, 10000, 30001, 0, one-1), turn(0, 1, 1), api.Frac{}, api.ErrLarge},
		{section(1, 0, 0, 0, 31622-one), turn(1, 0, 1), frac(1, 31622*31622), api.OK},
		{section(1, 0, 0, 0, 31623-one), turn(1, 0, 1), api.Frac{}, api.ErrLarge},
		{section(31622, 0, 0, 0, 31621-one), turn(1, 0, 1), frac(31622*31622, 31621*31621), api.OK},
		{section(31623, 0, 0, 0, 31622-one), turn(1, 0, 1), api.Frac{}, api.ErrLarge},
		{section(31622, 0, 0, 0, 31623-one), turn(1, 0, 1), api.Frac{}, api.ErrLarge},
		{section(31623, 0, 0, 0, 3-one), turn(1, 0, 1), frac(10541*10541, 1), api.OK},
		{section(mostPart-1, 17, mostPart-9, 3, 16001), turn(65, 72, 97), api.Frac{}, api.ErrLarge},
	} {
		f, e := filter.GainSquare(c.s, c.t)
		wantSame(t, "GainSquare", f, e, c.want, c.e)
	}
}

// P6.6: the gain squared is not there on a pole.
func TestPoles(t *testing.T) {
	for _, c := range []struct {
		s api.FilterSection
		t api.FilterTurn
	}{
		{pole(), turn(0, 1, 1)}, {pole(), turn(0, -5, 5)}, {fed(-one, 0), turn(1, 0, 1)}, {fed(one, 0), turn(-7, 0, 7)},
		{fed(-2*one, one), turn(1, 0, 1)}, {section(one, 0, one, 0, one), turn(0, 1, 1)}, {fed(0, -one), turn(-1, 0, 1)}, {fed(-20000, 3616), turn(1, 0, 1)},
	} {
		f, e := filter.GainSquare(c.s, c.t)
		wantWrong(t, "GainSquare", f, e, api.ErrZero)
		n, e := filter.CompareGain(c.s, c.t, frac(1, 1))
		wantWrong(t, "CompareGain", n, e, api.ErrZero)
		r, e := filter.GainRange(cascade(pass(), c.s), c.t)
		wantWrong(t, "GainRange", r, e, api.ErrZero)
	}
}

// P6.6: comparisons one part beside the gain, and with the least and the greatest fractions.
func TestCompareGain(t *testing.T) {
	for _, c := range []struct {
		s    api.FilterSection
		t    api.FilterTurn
		f    api.Frac
		want int
	}{
		{half(), turn(0, 1, 1), frac(1, 4), -1}, {half(), turn(0, 1, 1), frac(1, 6), 1}, {half(), turn(0, 1, 1), frac(0, 1), 1}, {half(), turn(0, 1, 1), frac(1, 5), 0},
		{half(), turn(0, 1, 1), frac(199999999, 999999999), 1}, {half(), turn(0, 1, 1), frac(200000000, 999999999), -1},
		{fed(0, 0), turn(0, 1, 1), frac(0, 1), 0}, {fed(0, 0), turn(0, 1, 1), frac(1, billion), -1}, {pass(), turn(3, 4, 5), frac(billion, 999999999), -1},
		{pass(), turn(3, 4, 5), frac(999999999, billion), 1}, {section(mostPart, 0, 0, 1-one, 0), turn(1, 0, 1), frac(billion, 1), 1},
		{section(31622, 0, 0, 1-one, 0), turn(1, 0, 1), frac(billion, 1), -1}, {section(31623, 0, 0, 0, 1-one), turn(1, 0, 1), frac(billion, 1), 1},
		{section(1, 0, 0, mostPart, mostPart), turn(100, 0, 100), frac(1, billion), -1}, {section(mostPart, mostPart, mostPart, 1-one, 0), turn(100, 0, 100), frac(billion, 1), 1},
		{section(3, 0, 0, mostPart, mostPart), turn(100, 0, 100), frac(1, billion), 1},
	} {
		n, e := filter.CompareGain(c.s, c.t, c.f)
		wantSame(t, "CompareGain", n, e, c.want, api.OK)
	}
}

// P6.6: the errors of a fraction come behind those of the turn, and ahead of a pole.
func TestCompareErrors(t *testing.T) {
	for want, l := range map[api.Errno][]api.Frac{
		api.ErrForm:  {{}, frac(1, 0), frac(1, -1), frac(-1, -2), frac(2, 2), frac(0, 2), frac(-2, 4), frac(leastInt, 2), frac(0, leastInt), frac(2*billion, 2), frac(4, 2*billion)},
		api.ErrRange: {frac(-1, 1), frac(billion+1, 1), frac(1, billion+1), frac(-billion-1, 1), frac(leastInt, 1), frac(1, greatestInt), frac(-1, billion), frac(greatestInt, 2), frac(billion+1, billion+2)},
	} {
		for _, f := range l {
			for _, s := range []api.FilterSection{half(), pole()} {
				n, e := filter.CompareGain(s, turn(0, 1, 1), f)
				wantWrong(t, "CompareGain", n, e, want)
				n, e = filter.CompareGain(s, turn(0, 2, 1), f)
				wantWrong(t, "CompareGain at no turn", n, e, api.ErrShape)
			}
		}
	}
	n, e := filter.CompareGain(half(), turn(0, 1, 1), frac(billion, 1))
	wantSame(t, "CompareGain", n, e, -1, api.OK)
	n, e = filter.CompareGain(half(), turn(0, 1, 1), frac(1, billion))
	wantSame(t, "CompareGain", n, e, 1, api.OK)
}

// P6.6: enclosures of plain cascades.
func TestGainRange(t *testing.T) {
	quarter := section(one/2, 0, 0, 0, 0)
	for _, c := range []struct {
		c    []api.FilterSection
		t    api.FilterTurn
		want api.Range
	}{
		{cascade(half()), turn(0, 1, 1), api.Range{Lo: 209715, Hi: 209716}}, {nil, turn(0, 1, 1), api.Range{Lo: gainOne, Hi: gainOne}},
		{cascade(half(), half()), turn(0, 1, 1), api.Range{Lo: 41942, Hi: 41944}}, {cascade(half()), turn(1, 0, 1), api.Range{Lo: gainOne, Hi: gainOne}},
		{cascade(half(), half(), half()), turn(0, -1, 1), api.Range{Lo: 8388, Hi: 8389}}, {cascade(pass(), double()), turn(3, 4, 5), api.Range{Lo: 4 * gainOne, Hi: 4 * gainOne}},
		{repeated(5, double()), turn(3, 4, 5), api.Range{Lo: 1 << 30, Hi: 1 << 30}}, {repeated(6, quarter), turn(3, 4, 5), api.Range{Lo: 256, Hi: 256}},
		{cascade(fed(0, 0)), turn(1, 0, 1), api.Range{}}, {cascade(half(), fed(0, 0), half()), turn(0, 1, 1), api.Range{}},
		{cascade(section(1, 0, 0, 0, 0)), turn(1, 0, 1), api.Range{Lo: 0, Hi: 1}}, {repeated(6, section(1, 0, 0, 0, 0)), turn(1, 0, 1), api.Range{Lo: 0, Hi: 1}},
		{cascade(section(16, 0, 0, 0, 0)), turn(1, 0, 1), api.Range{Lo: 1, Hi: 1}}, {cascade(section(17, 0, 0, 0, 0)), turn(1, 0, 1), api.Range{Lo: 1, Hi: 2}},
		{cascade(section(4, 0, 0, 3-one, 0)), turn(1, 0, 1), api.Range{Lo: 1864135, Hi: 1864136}}, // the rest is 1
		{append(repeated(5, double()), quarter), turn(1, 0, 1), api.Range{Lo: 1 << 28, Hi: 1 << 28}}, {cascade(section(mostPart, 0, 0, 1024-one, 0)), turn(1, 0, 1), api.Range{Lo: 1 << 30, Hi: 1 << 30}},
	} {
		r, e := filter.GainRange(c.c, c.t)
		wantSame(t, "GainRange", r, e, c.want, api.OK)
	}
}

// P6.6: gains, and their products, that are greater than 2^30 parts; section by section, also ahead of a pole.
func TestLargeRanges(t *testing.T) {
	great := section(mostPart, 0, 0, 1023-one, 0)
	for _, c := range [][]api.FilterSection{
		cascade(great), repeated(6, double()), append(repeated(5, double()), section(one+1, 0, 0, 0, 0)), cascade(fed(0, 0), great), cascade(section(mostPart, mostPart, mostPart, 1-one, 0)),
		cascade(section(0, mostPart, 0, 1024-one, 0), section(one+1, 0, 0, 0, 0)), append(repeated(5, double()), double()),
		cascade(section(1, 0, 0, 0, 0), great), cascade(great, section(1, 0, 0, 0, 0)), cascade(section(mostPart, 1, 0, 1024-one, 0)),
	} {
		r, e := filter.GainRange(c, turn(1, 0, 1))
		wantWrong(t, "GainRange", r, e, api.ErrLarge)
	}
	// gains of 1024, and of 2^30 parts and one more, at a turn of a right angle, where there is a pole too
	right, most, above := turn(0, 1, 1), section(mostPart, 0, 0, 0, one-1024), section(-mostPart, 1, 0, 0, one-1024)
	faint := section(1, 0, 0, 0, 0)
	for _, c := range []struct {
		c    []api.FilterSection
		want api.Errno
	}{
		{cascade(above, pole()), api.ErrLarge}, {cascade(pole(), above), api.ErrZero}, {cascade(most, double(), pole()), api.ErrLarge},
		{cascade(most, pole(), double()), api.ErrZero}, {append(repeated(5, double()), pole()), api.ErrZero}, {cascade(fed(0, 0), above, pole()), api.ErrLarge},
		{cascade(above), api.ErrLarge}, {cascade(faint, above), api.ErrLarge}, {cascade(above, faint), api.ErrLarge},
		// the product alone is too great: just the greatest end, or by one part
		{cascade(most, section(-one, 1, 0, 0, 0)), api.ErrLarge}, {cascade(section(-one, 16, 0, 0, 0), section(-mostPart, 7, 178, 500, one-900)), api.ErrLarge},
	} {
		r, e := filter.GainRange(c.c, right)
		wantWrong(t, "GainRange with a pole", r, e, c.want)
	}
	r, e := filter.GainRange(cascade(most), right)
	wantSame(t, "GainRange", r, e, api.Range{Lo: 1 << 30, Hi: 1 << 30}, api.OK)
	r, e = filter.GainRange(cascade(faint, most), right)
	wantSame(t, "GainRange", r, e, api.Range{Lo: 0, Hi: 1024}, api.OK)
	r, e = filter.GainRange(cascade(section(-mostPart, 7, 178, 500, one-900)), right)
	wantSame(t, "GainRange", r, e, api.Range{Lo: 1<<30 - 1024, Hi: 1<<30 - 1023}, api.OK)
	r, e = filter.GainRange(cascade(most, section(one-1, 0, 0, 0, 0)), right)
	wantSame(t, "GainRange", r, e, api.Range{Lo: 1073610752, Hi: 1073611776}, api.OK)
}

// P6.6: the same as in fractions, and P6.12: the same at the opposite turn; the gain lies in its enclosure.
func TestGainsSlowly(t *testing.T) {
	r := rand.New(rand.NewSource(614))
	all := turns(100)
	count := map[api.Errno]int{}
	for range 4000 {
		s, x := anyOf(r, anySection, anyStable)(r), anyOf(r, all...)
		other := turn(x.P, -x.Q, x.R)
		f, e := filter.GainSquare(s, x)
		again, wrong := filter.GainSquare(s, other)
		wantSame(t, "GainSquare at the opposite turn", again, wrong, f, e)
		enclosure, wrongRange := filter.GainRange(cascade(s), x)
		want, ok := slowGain(s, x)
		if !ok {
			wantWrong(t, "GainSquare", f, e, api.ErrZero)
			wantWrong(t, "GainRange", enclosure, wrongRange, api.ErrZero)
			continue
		}
		isSmall := want.Num().IsInt64() && want.Num().Int64() <= billion && want.Denom().IsInt64() && want.Denom().Int64() <= billion
		if isSmall {
			wantSame(t, "GainSquare", f, e, frac(int(want.Num().Int64()), int(want.Denom().Int64())), api.OK)
		} else {
			wantWrong(t, "GainSquare", f, e, api.ErrLarge)
		}
		count[e]++
		if wrongRange == api.OK && (rat(enclosure.Lo, gainOne).Cmp(want) > 0 || rat(enclosure.Hi, gainOne).Cmp(want) < 0) {
			t.Errorf("%v is not in %v", want, enclosure)
		}
		for _, with := range near(r, want) {
			n, e := filter.CompareGain(s, x, with)
			wantSame(t, "CompareGain", n, e, want.Cmp(rat(with.Num, with.Den)), api.OK)
			n, e = filter.CompareGain(s, other, with)
			wantSame(t, "CompareGain at the opposite turn", n, e, want.Cmp(rat(with.Num, with.Den)), api.OK)
		}
	}
	if count[api.OK] < 100 || count[api.ErrLarge] < 100 {
		t.Errorf("gains: %v", count)
	}
}

// near is fractions beside a number, and others.
func near(r *rand.Rand, x *big.Rat) []api.Frac {
	var l []api.Frac
	for _, den := range list(1, between(r, 1, 100), between(r, 1, billion), billion) {
		inParts := times(x, rat(den, 1))
		if inParts.Cmp(rat(billion-5, 1)) > 0 {
			continue
		}
		for _, more := range list(-1, 0, 1, 2) {
			f := rat(max(0, down(inParts)+more), den)
			l = append(l, frac(int(f.Num().Int64()), int(f.Denom().Int64())))
		}
	}
	return l
}

// P6.6: enclosures of cascades, the same as in fractions.
func TestGainRangesSlowly(t *testing.T) {
	r := rand.New(rand.NewSource(615))
	all := turns(100)
	count := map[api.Errno]int{}
	for range 6000 {
		c, x := anyCascade(r, 6), anyOf(r, all...)
		want, wrong := slowRange(c, x)
		got, e := filter.GainRange(c, x)
		wantSame(t, "GainRange", got, e, want, wrong)
		count[e]++
	}
	if count[api.OK] < 500 || count[api.ErrLarge] < 500 || count[api.ErrZero] < 5 {
		t.Errorf("enclosures: %v", count)
	}
}

// P6.6: all numbers of turns that are right are taken, and no others.
func TestAllTurns(t *testing.T) {
	right := map[api.FilterTurn]bool{}
	for _, x := range turns(30) {
		right[x] = true
	}
	for r := -1; r <= 30; r++ {
		for p := -31; p <= 31; p++ {
			for q := -31; q <= 31; q++ {
				want := choose(right[turn(p, q, r)], api.OK, choose(r < 1, api.ErrRange, api.ErrShape))
				_, e := filter.GainSquare(pass(), turn(p, q, r))
				wantSame(t, "GainSquare", 0, e, 0, want)
			}
		}
	}
}
