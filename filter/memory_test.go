package filter_test

import (
	"math"
	"slices"
	"testing"

	"shoebox/api"
	"shoebox/filter"
)

// R4: no function changes its arguments, or what lies behind their ends.
func TestArgumentsStay(t *testing.T) {
	c := slices.Grow(cascade(half(), double()), 3)
	s := slices.Grow(states(state(1, 2, 3, 4), state(5, 6, 7, 8)), 3)
	l := slices.Grow(samples(minusZero(), 20000, -5), 3)
	p := slices.Grow(list(5, 4, 3, 2, 1), 3)
	for _, f := range cascadeCalls() {
		f(c, true)
	}
	filter.CheckCascade(c)
	filter.FirstUnstable(c)
	filter.FormatCascade(c)
	filter.CheckState(c, s)
	filter.Run(c, block(9, 8, 7), s)
	filter.RunAll(c, l)
	filter.StepDown(p)
	filter.Schur(p)
	wantList(t, "sections", c, api.OK, half(), double())
	wantList(t, "states", s, api.OK, state(1, 2, 3, 4), state(5, 6, 7, 8))
	wantList(t, "samples", l, api.OK, 0, 20000, -5)
	wantList(t, "numbers", p, api.OK, 5, 4, 3, 2, 1)
	wantSame(t, "-0 stays", math.Signbit(float64(l[0])), 0, true, 0)
	wantList(t, "behind sections", c[2:5], api.OK, make([]api.FilterSection, 3)...)
	wantList(t, "behind states", s[2:5], api.OK, make([]api.FilterState, 3)...)
	wantList(t, "behind samples", l[3:6], api.OK, 0, 0, 0)
	wantList(t, "behind numbers", p[5:8], api.OK, 0, 0, 0)
}

// R4: results are new each time.
func TestResultsAreNew(t *testing.T) {
	c := cascade(pass())
	given := states(state(1, 2, 3, 4))
	_, behind, _, e := filter.Run(c, block(9), given)
	given[0].X[0] = 77
	wantList(t, "states of Run", behind, e, state(0, 0, 0, 0))
	behind[0].Y[1] = 78
	wantList(t, "states given", given, e, state(77, 2, 3, 4))

	_, none, _, e := filter.Run(nil, block(9), nil)
	wantSame(t, "no states", len(none), e, 0, api.OK)

	l := samples(5, 6)
	out, _, e := filter.RunAll(nil, l)
	out[0], l[1] = 7, 8
	wantList(t, "outputs", out, e, 7, 6)
	wantList(t, "samples", l, e, 5, 8)

	p := list(1, 0, 0)
	q, e := filter.StepDown(p)
	q[0] = 9
	wantList(t, "numbers", p, e, 1, 0, 0)

	first, _ := filter.NewState(c)
	first[0].X[0] = 5
	second, e := filter.NewState(c)
	wantList(t, "NewState", second, e, state(0, 0, 0, 0))

	sections, _ := filter.ParseCascade("1 2 3 4 5")
	sections[0].B[0] = 9
	sections, e = filter.ParseCascade("1 2 3 4 5")
	wantList(t, "ParseCascade", sections, e, section(1, 2, 3, 4, 5))
}

// R5: -0 counts as 0, and no output is -0.
func TestMinusZero(t *testing.T) {
	negative := section(-one, -one, -one, one, one)
	c := cascade(negative, section(-1, 0, 0, 0, 0))
	for _, sections := range [][]api.FilterSection{nil, c[:1], c, cascade(section(-8192, 0, 0, 0, 0)), cascade(half())} {
		l := samples(minusZero(), minusZero(), -1, minusZero(), 0, 1, -1)
		out, _, e := filter.RunAll(sections, l)
		plain, _, _ := filter.RunAll(sections, samples(0, 0, -1, 0, 0, 1, -1))
		wantList(t, "RunAll", out, e, plain...)
		s, _ := filter.NewState(sections)
		b, _, _, e := filter.Run(sections, block(l...), s)
		for _, y := range slices.Concat(out, b[:]) {
			if y == 0 && math.Signbit(float64(y)) {
				t.Errorf("-0 in %v, %v", out, b)
			}
		}
		wantSame(t, "Run", b[2], e, out[2], api.OK)
	}
}
