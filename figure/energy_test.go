package figure_test

import (
	"math/rand"
	"slices"
	"testing"

	"shoebox/api"
	"shoebox/figure"
)

// wantList tests a list of numbers, or of ranges.
func wantList[T comparable](t *testing.T, name string, l []T, e api.Errno, want ...T) {
	t.Helper()
	if !slices.Equal(l, want) || e != api.OK {
		t.Errorf("%s: %v, error %d, want %v", name, l, e, want)
	}
}

// P5.2: the energies of the example, with and without noise and tail.
func TestEnergy(t *testing.T) {
	for _, c := range []struct {
		from, to, want int
		within         api.Range // with the noise 1 and the tail 7
	}{
		{1, 3, 20, span(10, 34)},
		{0, 5, 85, span(59, 127)},
		{0, 4, 85, span(59, 119)},
		{1, 5, 21, span(10, 46)},
		{0, 1, 64, span(49, 81)},
		{4, 5, 0, span(0, 8)},
		{3, 4, 1, span(0, 4)},
		{0, 0, 0, span(0, 0)},
		{3, 3, 0, span(0, 0)},
		{4, 4, 0, span(0, 0)},
		{5, 5, 0, span(0, 7)},
	} {
		n, e := figure.Energy(five(), window(c.from, c.to))
		wantSame(t, "Energy", n, e, c.want, api.OK)
		r, e := figure.EnergyWithin(asked(five(), 0, 0), window(c.from, c.to))
		wantSame(t, "EnergyWithin of all that is known", r, e, span(c.want, c.want), api.OK)
		r, e = figure.EnergyWithin(asked(five(), 1, 7), window(c.from, c.to))
		wantSame(t, "EnergyWithin", r, e, c.within, api.OK)
	}
}

// P5.2: the backward sums of the example.
func TestSums(t *testing.T) {
	l, e := figure.Sums(five())
	wantList(t, "Sums", l, e, 85, 21, 5, 1, 0)
	m, e := figure.SumsWithin(asked(five(), 0, 0))
	wantList(t, "SumsWithin of all that is known", m, e, span(85, 85), span(21, 21), span(5, 5), span(1, 1), span(0, 0))
	m, e = figure.SumsWithin(asked(five(), 1, 7))
	wantList(t, "SumsWithin", m, e, span(59, 127), span(10, 46), span(1, 21), span(0, 12), span(0, 8))
	m, e = figure.SumsWithin(asked(five(), 5, 0))
	wantList(t, "SumsWithin of much noise", m, e, span(9, 360), span(0, 191), span(0, 110), span(0, 61), span(0, 25))
}

// P5.2: the energies of the loudest responses, with all the noise and tail.
func TestGreatestEnergies(t *testing.T) {
	const square = loud * loud
	n, e := figure.Energy(loudest(), window(0, 1024))
	wantSame(t, "Energy", n, e, 1024*square, api.OK)
	r, e := figure.EnergyWithin(asked(loudest(), loud, mostTail), window(0, 1024))
	wantSame(t, "EnergyWithin", r, e, span(0, 4*1024*square+mostTail), api.OK)
	r, e = figure.EnergyWithin(asked(loudest(), loud-1, mostTail), window(0, 1023))
	wantSame(t, "EnergyWithin, but for the last one", r, e, span(1023, 1023*(2*loud-1)*(2*loud-1)), api.OK)
	l, e := figure.Sums(loudest())
	if len(l) != 1024 || l[0] != 1024*square || l[1023] != square || e != api.OK {
		t.Errorf("Sums: %v, error %d", l, e)
	}
}

// P5.2: energies and sums as they follow from the definition.
func TestEnergySlowly(t *testing.T) {
	r := rand.New(rand.NewSource(2))
	for range 400 {
		a := anyAsk(r)
		count := len(a.Response.Samples)
		to := anyOf(r, count, r.Intn(count+1))
		from := anyOf(r, 0, to, r.Intn(to+1))
		want := slowEnergy(a, from, to)
		if to == count {
			want.hi = plus(want.hi, whole(a.Tail))
		}
		got, e := figure.EnergyWithin(a, window(from, to))
		wantSame(t, "EnergyWithin", got, e, want.outwards(), api.OK)
		n, e := figure.Energy(a.Response, window(from, to))
		wantSame(t, "Energy", n, e, floor(slowEnergy(asked(a.Response, 0, 0), from, to).lo), api.OK)
	}
}

// P5.2: all backward sums as they follow from the definition.
func TestSumsSlowly(t *testing.T) {
	r := rand.New(rand.NewSource(3))
	for range 200 {
		a := anyAsk(r)
		count := len(a.Response.Samples)
		var within []api.Range
		for _, sum := range slowSums(a)[:count] {
			within = append(within, sum.outwards())
		}
		var sums []int
		for _, sum := range slowSums(asked(a.Response, 0, 0))[:count] {
			sums = append(sums, floor(sum.lo))
		}
		l, e := figure.SumsWithin(a)
		wantList(t, "SumsWithin", l, e, within...)
		m, e := figure.Sums(a.Response)
		wantList(t, "Sums", m, e, sums...)
	}
}

// P5.11: sums never grow, the first one is all energy, and energies of windows that touch add up.
func TestSumsAndWindows(t *testing.T) {
	r := rand.New(rand.NewSource(4))
	for range 200 {
		x := anyResponse(r)
		count := len(x.Samples)
		sums, _ := figure.Sums(x)
		all, _ := figure.Energy(x, window(0, count))
		if len(sums) != count || sums[0] != all {
			t.Fatalf("%d sums, the first one %d, want %d and %d", len(sums), sums[0], count, all)
		}
		for i, sum := range sums {
			if i > 0 && sum > sums[i-1] || sum < 0 {
				t.Fatalf("the sum %d is %d behind %d", i, sum, sums[i-1])
			}
		}
		middle, end := r.Intn(count+1), r.Intn(count+1)
		middle, end = min(middle, end), max(middle, end)
		first, _ := figure.Energy(x, window(0, middle))
		second, _ := figure.Energy(x, window(middle, end))
		both, _ := figure.Energy(x, window(0, end))
		if first+second != both {
			t.Errorf("%d and %d are %d", first, second, both)
		}
	}
}

// "Signs of samples do not matter": for any function.
func TestSigns(t *testing.T) {
	r := rand.New(rand.NewSource(5))
	for range 100 {
		a := anyAsk(r)
		turned := asked(response(a.Response.Rate), a.Noise, a.Tail)
		for _, sample := range a.Response.Samples {
			turned.Response.Samples = append(turned.Response.Samples, sample*float32(anyOf(r, 1, -1)))
		}
		f, e := figure.FiguresOf(a)
		g, wrong := figure.FiguresOf(turned)
		wantSame(t, "FiguresOf", g, wrong, f, e)
		z, e := figure.Modulated(a.Response, 3)
		y, wrong := figure.Modulated(turned.Response, 3)
		wantSame(t, "Modulated", y, wrong, z, e)
	}
}
