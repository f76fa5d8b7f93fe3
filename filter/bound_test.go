package filter_test

import (
	"math/rand"
	"testing"

	"shoebox/api"
	"shoebox/filter"
)

// P6.4: bounds of sections, with the edges.
func TestBoundOf(t *testing.T) {
	for _, c := range []struct {
		s          api.FilterSection
		most, want int
	}{
		{half(), 100, 101}, {half(), 0, 1}, {half(), 1, 2}, {pass(), 100, 100}, {pass(), 0, 0}, {pass(), loud, loud}, {double(), loud, loud},
		{double(), 16383, 32766}, {double(), 16384, loud}, {section(-one, one, -one, 0, 0), 100, 300}, {fed(0, 0), loud, 0},
		{fed(-8192, 0), 5, 1}, {fed(8191, 0), 5, 0}, {fed(one-1, 0), 5, 8192}, {fed(0, 1-one), 5, 8192}, {fed(-8192, 8191), 5, 8192}, {fed(4096, 4096), 5, 1},
		{section(1, 0, 0, 0, 1-one), 100, 8292}, {section(0, -1, 0, 0, 1-one), loud, loud}, {section(mostPart, mostPart, mostPart, 1-one, 0), loud, loud},
		{section(0, 0, 1, -4096, -4096), 1, 1}, {section(24575, 0, 0, 0, 0), 1, 1}, {section(24576, 0, 0, 0, 0), 1, 2},
		{section(1, 0, 0, 1-one, 0), 24574, 32766}, {section(1, 0, 0, 1-one, 0), 24575, loud}, {section(1, 0, 0, 1-one, 0), 24576, loud},
	} {
		n, e := filter.BoundOf(c.s, c.most)
		wantSame(t, "BoundOf", n, e, c.want, api.OK)
		n, e = filter.CascadeBound(cascade(c.s), c.most)
		wantSame(t, "CascadeBound", n, e, c.want, api.OK)
	}
}

// P6.4: errors of bounds.
func TestBoundErrors(t *testing.T) {
	for _, s := range []api.FilterSection{fed(one, 0), fed(0, -one), fed(-8192, 8192), fed(2*one-2, one-1), fed(-mostPart, mostPart), fed(8192, -8193)} {
		n, e := filter.BoundOf(s, 100)
		wantWrong(t, "BoundOf", n, e, api.ErrNone)
		n, e = filter.CascadeBound(cascade(half(), s), 100)
		wantWrong(t, "CascadeBound", n, e, api.ErrNone)
		n, e = filter.CascadeBound(cascade(s, half()), 0)
		wantWrong(t, "CascadeBound", n, e, api.ErrNone)
		for _, most := range list(-1, loud+1, leastInt, greatestInt) {
			n, e := filter.BoundOf(s, most)
			wantWrong(t, "BoundOf", n, e, api.ErrRange)
			n, e = filter.CascadeBound(cascade(s), most)
			wantWrong(t, "CascadeBound", n, e, api.ErrRange)
			n, e = filter.CascadeBound(nil, most)
			wantWrong(t, "CascadeBound of nothing", n, e, api.ErrRange)
		}
	}
}

// P6.4: the bound of each section is what the next one takes.
func TestCascadeBound(t *testing.T) {
	for _, c := range []struct {
		c          []api.FilterSection
		most, want int
	}{
		{cascade(half(), half()), 100, 102}, {nil, 100, 100}, {nil, 0, 0}, {nil, loud, loud}, {repeated(6, half()), 0, 6}, {repeated(6, half()), loud, loud},
		{cascade(double(), section(one/2, 0, 0, 0, 0)), loud, 16384}, {cascade(section(one/2, 0, 0, 0, 0), double()), loud, loud},
		{repeated(6, double()), 500, 32000}, {repeated(6, double()), 512, loud},
	} {
		n, e := filter.CascadeBound(c.c, c.most)
		wantSame(t, "CascadeBound", n, e, c.want, api.OK)
	}
}

// anyTame is a section that has a bound, more often than not.
func anyTame(r *rand.Rand) api.FilterSection {
	a0 := between(r, -one, one)
	room := one - sizeOf(a0) + anyOf(r, -1, -1, 0)
	a1 := anyOf(r, 0, room, -room, r.Intn(sizeOf(room)+1))
	small := func() int { return anyPart(r) / anyOf(r, 1, 10, 100) }
	return section(small(), small(), small(), a0, a1)
}

// P6.4: the same as in fractions.
func TestBoundsSlowly(t *testing.T) {
	r := rand.New(rand.NewSource(65))
	for range 3000 {
		var c []api.FilterSection
		most := anyOf(r, 0, 1, loud, r.Intn(loud+1))
		want, hasOne := most, true
		for range r.Intn(7) {
			s := anyTame(r)
			c = append(c, s)
			next, ok := slowBound(s, want)
			n, e := filter.BoundOf(s, want)
			wantSame(t, "BoundOf", n, e, next, choose(ok, api.OK, api.ErrNone))
			if hasOne = hasOne && ok; hasOne {
				want = next
			}
		}
		n, e := filter.CascadeBound(c, most)
		wantSame(t, "CascadeBound", n, e, choose(hasOne, want, 0), choose(hasOne, api.OK, api.ErrNone))
	}
}

// P6.9: no output exceeds the bound of its section, and none is cut if that is below MaxSample.
func TestBoundsAreKept(t *testing.T) {
	r := rand.New(rand.NewSource(66))
	reached, tested := 0, 0
	for range 1000 {
		most := anyOf(r, 0, 1, 10, 1000, r.Intn(loud+1))
		l := anySamples(r, 150, most)
		isBelow := true
		var c []api.FilterSection
		for range between(r, 1, 4) {
			c = append(c, anyTame(r))
			limit, e := filter.CascadeBound(c, most)
			if e != api.OK {
				break
			}
			out, cuts, e := filter.RunAll(c, l)
			for _, y := range out {
				if sizeOf(int(y)) > limit {
					t.Errorf("%v for %v up to %d: %v, bound %d", c, l, most, y, limit)
				}
				if sizeOf(int(y)) == limit {
					reached++
				}
			}
			if isBelow = isBelow && limit < loud; isBelow {
				wantSame(t, "cuts", cuts, e, 0, api.OK)
			}
			tested++
		}
	}
	if reached < 100 || tested < 500 {
		t.Errorf("%d bounds were reached in %d tests", reached, tested)
	}
}
