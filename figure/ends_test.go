package figure_test

import (
	"math/rand"
	"testing"

	"shoebox/api"
	"shoebox/figure"
)

// heardAs is a response that may stand behind an ask: its samples are wrong by at most the noise, and its further ones have at most the energy of the tail.
func heardAs(r *rand.Rand, a api.FigureAsk) api.Response {
	x := response(a.Response.Rate)
	for _, sample := range a.Response.Samples {
		wrong := anyOf(r, -a.Noise, a.Noise, r.Intn(2*a.Noise+1)-a.Noise)
		x.Samples = append(x.Samples, float32(max(-loud, min(loud, int(sample)+wrong))))
	}
	left := a.Tail
	for len(x.Samples) < api.MaxResponse && r.Intn(20) > 0 {
		size := 0
		for (size+1)*(size+1) <= left && size < loud && r.Intn(300) > 0 {
			size++
		}
		left -= size * size
		x.Samples = append(x.Samples, float32(size*anyOf(r, 1, -1)))
	}
	return x
}

// wantInside tests that a range of a response lies in that of its ask, if both are known.
func wantInside(t *testing.T, name string, inner api.Range, e api.Errno, outer api.Range, wrong api.Errno) bool {
	t.Helper()
	if e != api.OK || wrong != api.OK {
		return false
	}
	if inner.Lo < outer.Lo || inner.Hi > outer.Hi || inner.Lo > inner.Hi {
		t.Errorf("%s: %v is not in %v", name, inner, outer)
	}
	return true
}

// P5.10: all figures of a response lie in those of an ask that it may stand behind.
func TestWithinTheEnds(t *testing.T) {
	r := rand.New(rand.NewSource(19))
	var counts [api.FigureCount]int
	for i := range 3000 {
		a := fading(r)
		if i%4 == 0 {
			a = anyAsk(r)
		}
		if i%3 == 0 {
			a.Tail = 0
		}
		x := heardAs(r, a)
		time := anyTime(r, a.Response)
		told := func(figure int, name string, inner api.Range, e api.Errno) func(api.Range, api.Errno) {
			return func(outer api.Range, wrong api.Errno) {
				if wantInside(t, name, inner, e, outer, wrong) {
					counts[figure]++
				}
			}
		}
		for kind := range 3 {
			inner, e := figure.Decay(x, kind)
			told(kind, "Decay", inner, e)(figure.DecayWithin(a, kind))
		}
		inner, e := figure.Clarity(asked(x, 0, 0), time)
		told(3, "Clarity", inner, e)(figure.Clarity(a, time))
		inner, e = figure.DefinitionWithin(asked(x, 0, 0), time)
		told(4, "DefinitionWithin", inner, e)(figure.DefinitionWithin(a, time))
		inner, e = figure.Centre(asked(x, 0, 0))
		told(5, "Centre", inner, e)(figure.Centre(a))
	}
	for i, count := range counts {
		if count < 100 {
			t.Errorf("the figure %d is known only %d times", i, count)
		}
	}
}

// P5.10: so do its energies and backward sums, and what is told of a time of it exactly.
func TestEnergiesWithinTheEnds(t *testing.T) {
	r := rand.New(rand.NewSource(20))
	for range 500 {
		a := anyAsk(r)
		x := heardAs(r, a)
		count, all := len(a.Response.Samples), len(x.Samples)
		from := r.Intn(count + 1)
		to := from + r.Intn(count-from+1)
		until := to
		if to == count {
			until = all
		}
		n, e := figure.Energy(x, window(from, until))
		outer, wrong := figure.EnergyWithin(a, window(from, to))
		wantInside(t, "EnergyWithin", span(n, n), e, outer, wrong)
		sums, _ := figure.Sums(x)
		within, _ := figure.SumsWithin(a)
		for i, sum := range within {
			wantInside(t, "SumsWithin", span(sums[i], sums[i]), api.OK, sum, api.OK)
		}
		time := anyTime(r, a.Response)
		share, e := figure.Definition(x, time)
		if e == api.OK {
			inner := over(times(whole(1000), whole(share.Num)), whole(share.Den))
			outer, wrong = figure.DefinitionWithin(a, time)
			wantInside(t, "Definition", span(floor(inner), ceiling(inner)), e, outer, wrong)
		}
	}
}
