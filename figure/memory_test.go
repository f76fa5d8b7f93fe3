package figure_test

import (
	"slices"
	"testing"

	"shoebox/api"
	"shoebox/figure"
)

// R4: no function changes its arguments.
func TestArgumentsStay(t *testing.T) {
	r := response(8000, minusZero(), -4, 2, 1, 0)
	r.Samples = slices.Grow(r.Samples, 3)
	for _, f := range responseCalls() {
		f(r, true)
	}
	for _, f := range askCalls() {
		f(asked(r, 1, 5), true)
	}
	figure.CheckResponse(r)
	figure.CheckAsk(asked(r, 1, 5))
	if r.Rate != 8000 || !slices.Equal(r.Samples, []float32{0, -4, 2, 1, 0}) || 1/r.Samples[0] > 0 {
		t.Errorf("changed: %v", r)
	}
	if more := r.Samples[5:cap(r.Samples)]; slices.Max(more) != 0 || slices.Min(more) != 0 {
		t.Errorf("changed behind the end: %v", more)
	}
}

// R4: lists are new each time.
func TestResultsAreNew(t *testing.T) {
	a := asked(five(), 0, 0)
	l, _ := figure.Sums(a.Response)
	m, _ := figure.SumsWithin(a)
	l[1], m[1] = 77, span(78, 79)
	_, _ = append(l, 80), append(m, span(81, 82))
	a.Response.Samples[2] = 9
	if !slices.Equal(l, list(85, 77, 5, 1, 0)) || m[0] != span(85, 85) || m[2] != span(5, 5) {
		t.Errorf("changed: %v, %v", l, m)
	}
	again, e := figure.Sums(five())
	wantList(t, "again", again, e, 85, 21, 5, 1, 0)
}

// R5: -0 is 0 everywhere.
func TestMinusZero(t *testing.T) {
	below := response(8000, 8, 4, 2, 1, minusZero())
	f, e := figure.FiguresOf(asked(five(), 1, 3))
	g, wrong := figure.FiguresOf(asked(below, 1, 3))
	wantSame(t, "FiguresOf", g, wrong, f, e)
	share, e := figure.Definition(response(8000, minusZero(), 3), 125)
	wantSame(t, "Definition", share, e, api.Frac{Num: 0, Den: 1}, api.OK)
}
