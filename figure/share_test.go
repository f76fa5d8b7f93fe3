package figure_test

import (
	"math/rand"
	"testing"

	"shoebox/api"
	"shoebox/figure"
)

// P5.5: the definition of the example, and its errors.
func TestDefinition(t *testing.T) {
	for _, c := range []struct {
		name string
		r    api.Response
		time int
		want api.Frac
		err  api.Errno
	}{
		{"the example", five(), 125, frac(64, 85), api.OK},
		{"the example a little later", five(), 126, frac(16, 17), api.OK},
		{"a little sooner", five(), 124, frac(64, 85), api.OK},
		{"nothing is early", five(), 0, frac(0, 1), api.OK},
		{"all is early", five(), 500, frac(1, 1), api.OK},
		{"behind the last sample", five(), 50000, frac(1, 1), api.OK},
		{"the last time", five(), million, frac(1, 1), api.OK},
		{"silence", response(8000, 0), 125, frac(0, 0), api.ErrZero},
		{"silence at 0", response(8000, 0, minusZero()), 0, frac(0, 0), api.ErrZero},
		{"in lowest terms", repeated(8000, 1024, 32767), 12500, frac(25, 256), api.OK},
		{"too great", response(8000, 32767, 1), 125, frac(0, 0), api.ErrLarge},
		{"the denominator is", response(8000, 1, 32767), 125, frac(0, 0), api.ErrLarge},
	} {
		f, e := figure.Definition(c.r, c.time)
		wantSame(t, c.name, f, e, c.want, c.err)
	}
}

// P5.5: a denominator of just 10^9 is small: 31622^2 is 49116 less than this, which is 221^2 + 16^2 + 3^2 + 3^2 + 1.
func TestGreatestDefinition(t *testing.T) {
	for _, c := range []struct {
		last float32
		want api.Frac
		err  api.Errno
	}{
		{1, frac(mostPart-1, mostPart), api.OK},
		{0, frac(1, 1), api.OK},
	} {
		f, e := figure.Definition(response(8000, 31622, 221, 16, 3, 3, c.last), 625)
		wantSame(t, "Definition", f, e, c.want, c.err)
	}
	f, e := figure.Definition(response(8000, 31622, 221, 16, 3, 3, 1, 1), 625)
	wantSame(t, "one more, in lowest terms", f, e, frac(0, 0), api.ErrLarge)
}

// P5.5: definitions within an ask.
func TestDefinitionWithin(t *testing.T) {
	for _, c := range []struct {
		name string
		a    api.FigureAsk
		time int
		want api.Range
		err  api.Errno
	}{
		{"the example", asked(five(), 0, 0), 125, span(752, 753), api.OK},
		{"noise", asked(five(), 1, 0), 125, span(556, 891), api.OK},
		{"a tail", asked(five(), 0, 15), 125, span(640, 753), api.OK},
		{"nothing is early", asked(five(), 0, 0), 0, span(0, 0), api.OK},
		{"nothing is early, with noise", asked(five(), 1, 5), 0, span(0, 0), api.OK},
		{"all is early", asked(five(), 0, 0), 50000, span(1000, 1000), api.OK},
		{"all is early, with a tail", asked(five(), 0, 15), 50000, span(850, 1000), api.OK},
		{"all is early, with noise", asked(five(), 1, 0), 501, span(1000, 1000), api.OK},
		{"all may be late", asked(five(), 3, 0), 250, span(342, 1000), api.OK},
		{"silence", asked(response(8000, 0), 0, 0), 125, span(0, 0), api.ErrZero},
		{"silence with a tail", asked(response(8000, 0), 0, 5), 0, span(0, 0), api.ErrZero},
		{"all may be noise", asked(five(), 8, 0), 125, span(0, 0), api.ErrZero},
		{"all may be noise and tail", asked(five(), 8, mostTail), 50000, span(0, 0), api.ErrZero},
		{"early is not all noise", asked(five(), 7, 0), 125, span(3, 1000), api.OK},
		{"late is not all noise", asked(response(8000, 1, 3), 2, 0), 125, span(0, 900), api.OK},
	} {
		r, e := figure.DefinitionWithin(c.a, c.time)
		wantSame(t, c.name, r, e, c.want, c.err)
	}
}

// P5.5: definitions as they follow from the definition.
func TestDefinitionSlowly(t *testing.T) {
	r := rand.New(rand.NewSource(11))
	for range 1500 {
		a := anyAsk(r)
		time := anyTime(r, a.Response)
		got, e := figure.DefinitionWithin(a, time)
		want, wrong := slowDefinitionWithin(a, time)
		wantSame(t, "DefinitionWithin", got, e, want, wrong)
		f, e := figure.Definition(a.Response, time)
		g, wrong := slowDefinition(a.Response, time)
		wantSame(t, "Definition", f, e, g, wrong)
	}
}

// P5.5: the shares from the sides: with 8000 samples a second the first number that counts is 40, the last one 639.
func TestLateral(t *testing.T) {
	loudAt := func(at int) api.Response { return onlyAt(8000, 700, at, 3) }
	late := func(samples ...float32) api.Response {
		return response(8000, append(make([]float32, 40), samples...)...)
	}
	for _, c := range []struct {
		name       string
		omni, side api.Response
		want       api.Frac
		err        api.Errno
	}{
		{"the first one", loudAt(0), loudAt(40), frac(1, 1), api.OK},
		{"one sooner", loudAt(0), loudAt(39), frac(0, 1), api.OK},
		{"the last one", loudAt(639), loudAt(639), frac(1, 1), api.OK},
		{"one later", loudAt(639), loudAt(640), frac(0, 1), api.OK},
		{"the ends count nothing", loudAt(640), loudAt(100), frac(0, 0), api.ErrZero},
		{"short ones", five(), five(), frac(0, 1), api.OK},
		{"a short one from everywhere", five(), loudAt(50), frac(9, 85), api.OK},
		{"a short one from the sides", loudAt(2), onlyAt(8000, 50, 49, -6), frac(4, 1), api.OK},
		{"silence from everywhere", response(8000, 0), loudAt(50), frac(0, 0), api.ErrZero},
		{"silence of both", response(8000, 0), response(8000, 0), frac(0, 0), api.ErrZero},
		{"other rates", five(), response(8001, 1), frac(0, 0), api.ErrClash},
		{"other rates and silence", response(192000, 0), response(8000, 0), frac(0, 0), api.ErrClash},
		{"a fast one", onlyAt(44100, 300, 0, 2), onlyAt(44100, 300, 221, 6), frac(9, 1), api.OK},
		{"a fast one sooner", onlyAt(44100, 300, 0, 2), onlyAt(44100, 300, 220, 6), frac(0, 1), api.OK},
		{"half a microsecond ahead", onlyAt(8001, 1, 0, 1), onlyAt(8001, 50, 40, 1), frac(0, 1), api.OK},
		{"just behind", onlyAt(8001, 1, 0, 1), onlyAt(8001, 50, 41, 1), frac(1, 1), api.OK},
		{"as great as can be", response(8000, 1), late(31622, 221, 16, 3, 3, 1), frac(mostPart, 1), api.OK},
		{"one more", response(8000, 1), late(31622, 221, 16, 3, 3, 1, 1), frac(0, 0), api.ErrLarge},
		{"too great", onlyAt(8000, 1, 0, 1), onlyAt(8000, 90, 50, 32767), frac(0, 0), api.ErrLarge},
		{"too small", onlyAt(8000, 1, 0, 32767), onlyAt(8000, 90, 50, 1), frac(0, 0), api.ErrLarge},
		{"in lowest terms", repeated(8000, 1024, loud), repeated(8000, 1024, loud), frac(15, 16), api.OK},
	} {
		f, e := figure.Lateral(c.omni, c.side)
		wantSame(t, c.name, f, e, c.want, c.err)
	}
}

// P5.5: the first error of both responses comes ahead of that of the rates.
func TestLateralErrors(t *testing.T) {
	for _, c := range wrongResponses() {
		for _, d := range wrongResponses() {
			f, e := figure.Lateral(c.r, d.r)
			wantWrong(t, c.name+" ahead of "+d.name, f, e, c.want)
		}
		f, e := figure.Lateral(response(9001, 0), c.r)
		wantWrong(t, "silence ahead of "+c.name, f, e, c.want)
		f, e = figure.Lateral(c.r, response(9001, 0))
		wantWrong(t, c.name+" ahead of silence", f, e, c.want)
	}
}

// P5.5: the shares from the sides as they follow from the definition.
func TestLateralSlowly(t *testing.T) {
	r := rand.New(rand.NewSource(12))
	known := 0
	for range 400 {
		omni, side := anyResponse(r), anyResponse(r)
		omni.Rate = anyOf(r, 8000, 8009, 11025, 12800)
		side.Rate = omni.Rate
		f, e := figure.Lateral(omni, side)
		want, wrong := slowLateral(omni, side)
		wantSame(t, "Lateral", f, e, want, wrong)
		if f.Num > 0 {
			known++
		}
	}
	if known < 20 {
		t.Errorf("only %d are above 0", known)
	}
}
