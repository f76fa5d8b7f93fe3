package filter_test

import (
	"math/rand"
	"testing"

	"shoebox/api"
	"shoebox/filter"
)

// P6.1: a coefficient is at most MaxFilterPart in size.
func TestCheckSection(t *testing.T) {
	for _, s := range []api.FilterSection{
		{}, half(), section(mostPart, mostPart, mostPart, mostPart, mostPart), section(-mostPart, -mostPart, -mostPart, -mostPart, -mostPart),
	} {
		wantSame(t, "CheckSection", 0, filter.CheckSection(s), 0, api.OK)
	}
	for _, s := range wrongSections() {
		wantSame(t, "CheckSection", 0, filter.CheckSection(s), 0, api.ErrRange)
	}
}

// P6.1: of a cascade the number of the first wrong section is told.
func TestCheckCascade(t *testing.T) {
	for count := range 7 {
		n, e := filter.CheckCascade(repeated(count, fed(mostPart, -mostPart)))
		wantSame(t, "CheckCascade", n, e, 0, api.OK)
	}
	n, e := filter.CheckCascade(repeated(7, fed(mostPart+1, 0)))
	wantSame(t, "CheckCascade of too many", n, e, 0, api.ErrLarge)
	n, e = filter.CheckCascade([]api.FilterSection{})
	wantSame(t, "CheckCascade of none", n, e, 0, api.OK)
	for _, s := range wrongSections() {
		for at := range 6 {
			c := repeated(6, half())
			c[at], c[5] = s, s
			n, e := filter.CheckCascade(c)
			wantSame(t, "CheckCascade", n, e, at, api.ErrRange)
		}
	}
}

// P6.2: the triangle of stability, with its edges.
func TestIsStable(t *testing.T) {
	for _, c := range []struct {
		a0, a1 int
		want   bool
	}{
		{0, 0, true}, {-8192, 0, true}, {one, 0, false}, {-one, 0, false}, {one - 1, 0, true}, {1 - one, 0, true},
		{0, one, false}, {0, -one, false}, {0, one - 1, true}, {0, 1 - one, true}, {1, 1 - one, false}, {-1, 1 - one, false},
		{2*one - 2, one - 1, true}, {2 - 2*one, one - 1, true}, {2*one - 1, one - 1, false}, {1 - 2*one, one - 1, false},
		{2 * one, one, false}, {-mostPart, mostPart, false}, {mostPart, -mostPart, false}, {0, -mostPart, false}, {0, mostPart, false},
		{-mostPart, 0, false}, {one / 2, -one / 2, false}, {one/2 - 1, -one / 2, true}, {one, 1, true}, {one, 2, true}, {one + 1, 1, false},
	} {
		ok, e := filter.IsStable(section(mostPart, -mostPart, 5, c.a0, c.a1))
		wantSame(t, "IsStable", ok, e, c.want, api.OK)
	}
}

// P6.2, P6.8: a section is stable just if both roots lie inside the circle, and just if both reflections are less than 1 in size.
func TestStableSections(t *testing.T) {
	r := rand.New(rand.NewSource(61))
	count := 0
	for range 20000 {
		s := anyOf(r, anySection, anyStable)(r)
		ok, e := filter.IsStable(s)
		wantSame(t, "IsStable", ok, e, slowStable(s), api.OK)
		if ok {
			count++
		}
		reflections, e := filter.Reflections(s)
		if s.A[1] == -one {
			wantWrong(t, "Reflections", reflections, e, api.ErrZero)
			wantSame(t, "IsStable without reflections", ok, 0, false, 0)
			continue
		}
		areLess := true
		for _, f := range reflections {
			areLess = areLess && sizeOf(f.Num) < f.Den
		}
		wantSame(t, "reflections less than 1", areLess, e, ok, api.OK)
	}
	if count < 5000 || count > 15000 {
		t.Errorf("%d of 20000 were stable", count)
	}
}

// P6.2: the reflections are in lowest terms, with a denominator above 0.
func TestReflections(t *testing.T) {
	for _, c := range []struct {
		a0, a1 int
		want   [2]api.Frac
	}{
		{-8192, 0, [2]api.Frac{frac(0, 1), frac(-1, 2)}},
		{0, 0, [2]api.Frac{frac(0, 1), frac(0, 1)}},
		{one, one, [2]api.Frac{frac(1, 1), frac(1, 2)}},
		{5, -one + 1, [2]api.Frac{frac(-16383, 16384), frac(5, 1)}},
		{5, -one - 10, [2]api.Frac{frac(-8197, 8192), frac(-1, 2)}},
		{-6, -one - 4, [2]api.Frac{frac(-4097, 4096), frac(3, 2)}},
		{5, -one - 1, [2]api.Frac{frac(-16385, 16384), frac(-5, 1)}},
		{0, -one - 1, [2]api.Frac{frac(-16385, 16384), frac(0, 1)}},
		{0, -mostPart, [2]api.Frac{frac(-2, 1), frac(0, 1)}},
		{mostPart, -mostPart, [2]api.Frac{frac(-2, 1), frac(-2, 1)}},
		{mostPart, mostPart, [2]api.Frac{frac(2, 1), frac(2, 3)}},
		{-one, 3, [2]api.Frac{frac(3, 16384), frac(-16384, 16387)}},
	} {
		r, e := filter.Reflections(section(1, 2, 3, c.a0, c.a1))
		wantSame(t, "Reflections", r, e, c.want, api.OK)
	}
	for _, a0 := range list(0, 1, -1, mostPart) {
		r, e := filter.Reflections(fed(a0, -one))
		wantWrong(t, "Reflections", r, e, api.ErrZero)
	}
	r, e := filter.Reflections(fed(mostPart+1, -one))
	wantWrong(t, "Reflections of a wrong section", r, e, api.ErrRange)
}

// P6.2: of a cascade the first section that is not stable is told.
func TestFirstUnstable(t *testing.T) {
	for at := range 6 {
		c := repeated(6, half())
		c[at], c[5] = fed(0, one), fed(one, 0)
		n, e := filter.FirstUnstable(c)
		wantSame(t, "FirstUnstable", n, e, at, api.OK)
	}
	for count := range 7 {
		n, e := filter.FirstUnstable(repeated(count, fed(2*one-2, one-1)))
		wantWrong(t, "FirstUnstable", n, e, api.ErrNone)
	}
	c := cascade(half(), fed(one, 0), fed(mostPart+1, 0))
	n, e := filter.FirstUnstable(c)
	wantWrong(t, "FirstUnstable of a wrong cascade", n, e, api.ErrRange)
}

// P6.3: the stable section that is nearest; of several ones that with the least A[0], then the least A[1].
func TestStabilised(t *testing.T) {
	for _, c := range []struct {
		a0, a1, reach int
		want          [2]int
		apart         int
	}{
		{one, 0, 2, [2]int{one - 1, 0}, 1},
		{one, 0, 1, [2]int{one - 1, 0}, 1},
		{-one, 0, 2, [2]int{-one, 1}, 1},
		{0, one, 20, [2]int{0, one - 1}, 1},
		{0, -one, 1, [2]int{0, 1 - one}, 1},
		{2 * one, one, 20, [2]int{2*one - 2, one - 1}, 3},
		{-2 * one, one, 20, [2]int{2 - 2*one, one - 1}, 3},
		{one + 19, 0, 20, [2]int{one - 1, 0}, 20},
		{one + 19, 0, 10, [2]int{one + 9, 10}, 20},
		{-one - 19, 0, 20, [2]int{-one - 19, 20}, 20},
		{0, one + 19, 20, [2]int{0, one - 1}, 20},
		{-8192, 0, 0, [2]int{-8192, 0}, 0},
		{-8192, 0, 20, [2]int{-8192, 0}, 0},
		{1, -one, 20, [2]int{0, 1 - one}, 2},
		{-1, -one, 20, [2]int{-1, 2 - one}, 2},
		{mostPart - 2, one + 19, 20, [2]int{mostPart - 2, one - 1}, 20},
	} {
		s, n, e := filter.Stabilised(section(1, -2, mostPart, c.a0, c.a1), c.reach)
		wantPair(t, "Stabilised", s, n, e, section(1, -2, mostPart, c.want[0], c.want[1]), c.apart, api.OK)
	}
	for _, c := range []struct{ a0, a1, reach int }{
		{one, 0, 0}, {0, one, 0}, {2 * one, one, 1}, {one + 20, 0, 10}, {0, one + 20, 20}, {0, -one - 20, 20}, {mostPart, -mostPart, 20}, {mostPart, mostPart, 20},
		{-2 * one, one - 1, 1}, {2 * one, one - 1, 1}, {2*one - 1, one - 1, 0}, {1 - 2*one, one - 1, 0}, {2 * one, one, 1}, {-2 * one, one, 1},
	} {
		s, n, e := filter.Stabilised(fed(c.a0, c.a1), c.reach)
		wantPair(t, "Stabilised too far", s, n, e, api.FilterSection{}, 0, api.ErrNone)
	}
	for _, reach := range list(-1, 21, leastInt, greatestInt) {
		s, n, e := filter.Stabilised(half(), reach)
		wantPair(t, "Stabilised", s, n, e, api.FilterSection{}, 0, api.ErrRange)
	}
}

// P6.3: the same as the first stable one of all in reach, near the edges and anywhere.
func TestStabilisedSlowly(t *testing.T) {
	r := rand.New(rand.NewSource(63))
	near := func(n int) int { return max(-mostPart, min(mostPart, n+between(r, -25, 25))) }
	for range 400 {
		a1 := anyOf(r, one, -one, 0, between(r, -one, one))
		a0 := anyOf(r, one+a1, -one-a1, 0, between(r, -mostPart, mostPart))
		s := section(anyPart(r), anyPart(r), anyPart(r), near(a0), near(a1))
		reach := anyOf(r, 0, 1, 2, 20, r.Intn(21))
		want, apart, ok := slowNearest(s, reach)
		got, n, e := filter.Stabilised(s, reach)
		wantPair(t, "Stabilised", got, n, e, want, apart, choose(ok, api.OK, api.ErrNone))
	}
}
