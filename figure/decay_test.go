package figure_test

import (
	"math/rand"
	"testing"

	"shoebox/api"
	"shoebox/figure"
)

// P5.3: the drops of the example, and of responses whose sums are just at a drop.
func TestFirstBelow(t *testing.T) {
	for _, c := range []struct {
		name        string
		r           api.Response
		fives, want int
	}{
		{"no drop", five(), 0, 0},
		{"5 decibels", five(), 1, 1},
		{"10 decibels", five(), 2, 2},
		{"15 decibels", five(), 3, 3},
		{"20 decibels", five(), 4, 4},
		{"25 decibels", five(), 5, 4},
		{"60 decibels", five(), 12, 4},
		{"one sample, no drop", response(8000, 5), 0, 0},
		{"one sample", response(8000, 5), 1, 1},
		{"one sample, 60 decibels", response(8000, -5), 12, 1},
		{"silence ahead", response(8000, 0, 0, 5), 0, 0},
		{"silence ahead, 5 decibels", response(8000, 0, 0, 5), 1, 3},
		{"a tenth is 10 decibels", response(8000, 3, 1), 2, 1},
		{"a little more is not", response(8000, 2, 1), 2, 2},
		{"a thousandth is 30 decibels", response(8000, 30, 9, 3, 3, 1), 6, 4},
		{"a millionth is 60 decibels", response(8000, 999, 44, 7, 3, 2, 1), 12, 5},
		{"a little more than a millionth is not", response(8000, 999, 44, 7, 3, 1, 1, 1), 12, 7},
		{"loud, 60 decibels", loudest(), 12, 1024},
		{"loud, 5 decibels", loudest(), 1, 701},
	} {
		n, e := figure.FirstBelow(c.r, c.fives)
		wantSame(t, c.name, n, e, c.want, api.OK)
	}
	for _, r := range []api.Response{response(8000, 0), response(8000, minusZero(), 0), repeated(8000, 1024, 0)} {
		for _, fives := range list(0, 1, 12) {
			n, e := figure.FirstBelow(r, fives)
			wantWrong(t, "silence", n, e, api.ErrZero)
		}
	}
}

// P5.3: sums that, times a power of ten, are just above a multiple of 2^64.
func TestFirstBelowOfGreatSums(t *testing.T) {
	great := repeated(8000, 848+171, loud) // and the backward sum at 848 is 184467440738
	great.Samples = append(great.Samples, 29475, 140, 9, 3, 2)
	n, e := figure.FirstBelow(great, 12)
	wantSame(t, "times 10^8", n, e, 1020, api.OK)
	great = repeated(8000, 1000, loud) // at 1000 it is 18446745
	great.Samples = append(great.Samples, 4294, 91, 5, 1, 1, 1)
	n, e = figure.FirstBelow(great, 12)
	wantSame(t, "times 10^12", n, e, 1001, api.OK)
}

// P5.3: the decays of the example, and others.
func TestDecay(t *testing.T) {
	for _, c := range []struct {
		name string
		r    api.Response
		want [3]api.Range // by kind; nothing if a drop is not passed at a sample
	}{
		{"the example", five(), [3]api.Range{span(750, 1500), span(750, 1500), span(500, 1000)}},
		{"without its end", response(8000, 8, 4, 2, 1), [3]api.Range{span(750, 1500)}},
		{"one sample", response(8000, 5), [3]api.Range{}},
		{"one sample and its end", response(8000, 5, 0), [3]api.Range{span(0, 750), span(0, 375), span(0, 250)}},
		{"another rate", response(44100, 8, 4, 2, 1, 0), [3]api.Range{span(136, 273), span(136, 273), span(90, 182)}},
		{"silence ahead", response(8000, 0, 0, 5, 0), [3]api.Range{span(1500, 2250), span(0, 375), span(0, 250)}},
		{"25 decibels alone", response(8000, 100, 0, 4), [3]api.Range{span(0, 750), span(0, 375)}},
	} {
		for kind, want := range c.want {
			wrong := api.OK
			if want == span(0, 0) {
				wrong = api.ErrNone
			}
			r, e := figure.Decay(c.r, kind)
			wantSame(t, c.name, r, e, want, wrong)
			r, e = figure.DecayWithin(asked(c.r, 0, 0), kind)
			wantSame(t, c.name+" within", r, e, want, wrong)
		}
	}
}

// P5.3: decays with noise and tail.
func TestDecayWithin(t *testing.T) {
	few := response(8000, 100, 30, 10, 3, 1, 0)
	for _, c := range []struct {
		name        string
		r           api.Response
		noise, tail int
		want        [3]api.Range
		wrong       [3]api.Errno
	}{
		{"nothing wrong", few, 0, 0, [3]api.Range{span(0, 750), span(375, 1125), span(500, 1000)}, [3]api.Errno{}},
		{"noise", few, 1, 0, [3]api.Range{span(0, 1500), span(375, 1125), span(500, 1250)}, [3]api.Errno{}},
		{"a tail", few, 0, 30, [3]api.Range{span(0, 750), span(375, 1500)}, [3]api.Errno{2: api.ErrNone}},
		{"a tail of 25 decibels", few, 0, 34, [3]api.Range{span(0, 750), span(375, 1875)}, [3]api.Errno{2: api.ErrNone}},
		{"a longer tail", few, 0, 35, [3]api.Range{span(0, 750)}, [3]api.Errno{1: api.ErrNone, 2: api.ErrNone}},
		{"a tail of 5 decibels", few, 0, 3000, [3]api.Range{}, [3]api.Errno{api.ErrNone, api.ErrNone, api.ErrNone}},
		{"noise that may be all", few, 100, 0, [3]api.Range{}, [3]api.Errno{api.ErrZero, api.ErrZero, api.ErrZero}},
		{"noise that may be nearly all", few, 99, 0, [3]api.Range{}, [3]api.Errno{api.ErrNone, api.ErrNone, api.ErrNone}},
		{"silence with a tail", response(8000, 0, 0), 0, 5, [3]api.Range{}, [3]api.Errno{api.ErrZero, api.ErrZero, api.ErrZero}},
	} {
		for kind, want := range c.want {
			r, e := figure.DecayWithin(asked(c.r, c.noise, c.tail), kind)
			wantSame(t, c.name, r, e, want, c.wrong[kind])
		}
	}
}

// fading is a response that fades evenly, sometimes to silence, and an ask of it with so little noise and tail that its decays may be known.
func fading(r *rand.Rand) api.FigureAsk {
	x := response(anyRate(r))
	fade := 0.3 + 0.69*r.Float64()
	for size := float64(1 + r.Intn(loud)); size > 0.1 && len(x.Samples) < 300; size *= fade {
		x.Samples = append(x.Samples, float32(int(size*(0.7+0.3*r.Float64()))*anyOf(r, 1, -1)))
	}
	return asked(x, anyOf(r, 0, 1, 2, 5, r.Intn(40)), anyOf(r, 0, 1, 20, 500, r.Intn(10000)))
}

// P5.3: drops and decays as they follow from the definition.
func TestDecaySlowly(t *testing.T) {
	r := rand.New(rand.NewSource(6))
	known := 0
	for i := range 300 {
		a := fading(r)
		if i%3 == 0 {
			a = anyAsk(r)
		}
		for kind := range 3 {
			got, e := figure.DecayWithin(a, kind)
			want, wrong := slowDecay(a, kind)
			wantSame(t, "DecayWithin", got, e, want, wrong)
			if e == api.OK && a.Noise > 0 && a.Tail > 0 {
				known++
			}
			got, e = figure.Decay(a.Response, kind)
			want, wrong = slowDecay(asked(a.Response, 0, 0), kind)
			wantSame(t, "Decay", got, e, want, wrong)
		}
		fives := r.Intn(13)
		n, e := figure.FirstBelow(a.Response, fives)
		want, wrong := slowFirstBelow(a.Response, fives)
		wantSame(t, "FirstBelow", n, e, want, wrong)
	}
	if known < 100 {
		t.Errorf("only %d decays are known", known)
	}
}

// P5.12: a greater drop is not passed sooner, and there is a first number for each one.
func TestGreaterDrops(t *testing.T) {
	r := rand.New(rand.NewSource(7))
	for range 200 {
		x, before := fading(r).Response, 0
		for fives := range 13 {
			n, e := figure.FirstBelow(x, fives)
			if e != api.OK || n < before || n > len(x.Samples) {
				t.Fatalf("%v: %d fives at %d, error %d, behind %d", x, fives, n, e, before)
			}
			before = n
		}
	}
}

// louder is a response with all samples times a number.
func louder(x api.Response, by int) api.Response {
	y := response(x.Rate)
	for _, sample := range x.Samples {
		y.Samples = append(y.Samples, sample*float32(by))
	}
	return y
}

// P5.12: with all samples times a number the drops, decay times, levels, shares and transfers stay.
func TestLouder(t *testing.T) {
	r := rand.New(rand.NewSource(8))
	for range 300 {
		x := response(anyRate(r))
		for range 1 + r.Intn(30) {
			x.Samples = append(x.Samples, float32(r.Intn(1+anyOf(r, 1, 30, 300))))
		}
		y, time := louder(x, anyOf(r, -1, 2, -3, 10, 100)), anyTime(r, x)
		fives, kind, block := r.Intn(13), r.Intn(3), 1+r.Intn(9)
		n, e := figure.FirstBelow(x, fives)
		m, wrong := figure.FirstBelow(y, fives)
		wantSame(t, "FirstBelow", m, wrong, n, e)
		d, e := figure.Decay(x, kind)
		f, wrong := figure.Decay(y, kind)
		wantSame(t, "Decay", f, wrong, d, e)
		d, e = figure.Clarity(asked(x, 0, 0), time)
		f, wrong = figure.Clarity(asked(y, 0, 0), time)
		wantSame(t, "Clarity", f, wrong, d, e)
		d, e = figure.DefinitionWithin(asked(x, 0, 0), time)
		f, wrong = figure.DefinitionWithin(asked(y, 0, 0), time)
		wantSame(t, "DefinitionWithin", f, wrong, d, e)
		s, e := figure.Definition(x, time)
		u, wrong := figure.Definition(y, time)
		wantSame(t, "Definition", u, wrong, s, e)
		s, e = figure.Transfer(x, block)
		if u, wrong = figure.Transfer(y, block); wrong != api.ErrLarge { // there is less room for it
			wantSame(t, "Transfer", u, wrong, s, e)
		}
	}
}
