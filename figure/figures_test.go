package figure_test

import (
	"math/rand"
	"testing"

	"shoebox/api"
	"shoebox/figure"
)

// slowFigures is all figures, each one as it follows from the definition.
func slowFigures(powers map[int]exact, a api.FigureAsk) api.Figures {
	var f api.Figures
	keep := func(i int) func(r api.Range, e api.Errno) {
		return func(r api.Range, e api.Errno) {
			if e == api.OK {
				f.Known[i], f.Values[i] = true, r
			}
		}
	}
	keep(0)(slowDecay(a, api.DecayEarly))
	keep(1)(slowDecay(a, api.DecayTwenty))
	keep(2)(slowDecay(a, api.DecayThirty))
	keep(3)(slowClarity(powers, a, 80000))
	keep(4)(slowDefinitionWithin(a, 50000))
	keep(5)(slowCentre(a))
	return f
}

// known is figures of which all are known, but for those that are left out.
func known(values [api.FigureCount]api.Range, unknown ...int) api.Figures {
	f := api.Figures{Values: values}
	for i := range f.Known {
		f.Known[i] = true
	}
	for _, i := range unknown {
		f.Known[i], f.Values[i] = false, span(0, 0)
	}
	return f
}

// long is a response that has all figures. Its backward sums are 10126, from 1 on 126, from 451 on 26, and at 640 1.
func long() api.Response {
	r := repeated(8000, 1000, 0)
	r.Samples[0], r.Samples[450], r.Samples[639], r.Samples[640] = 100, 10, 5, 1
	return r
}

// P5.8: the figures of the example, and of a response that has all of them.
func TestFiguresOf(t *testing.T) {
	all := [api.FigureCount]api.Range{span(0, 750), span(168375, 169125), span(159500, 160000), span(40, 41), span(987, 988), span(760, 761)}
	example := [api.FigureCount]api.Range{span(750, 1500), span(750, 1500), span(500, 1000), {}, span(1000, 1000), span(39, 40)}
	for _, c := range []struct {
		name string
		a    api.FigureAsk
		want api.Figures
	}{
		{"the example", asked(five(), 0, 0), known(example, api.FigureClarity)},
		{"all", asked(long(), 0, 0), known(all)},
		{"silence", asked(response(8000, 0), 0, 0), api.Figures{}},
		{"all may be silence", asked(five(), 8, 0), api.Figures{}},
		{"one sample", asked(response(8000, 5), 0, 0), known([api.FigureCount]api.Range{4: span(1000, 1000)}, 0, 1, 2, 3)},
	} {
		f, e := figure.FiguresOf(c.a)
		wantSame(t, c.name, f, e, c.want, api.OK)
	}
}

// P5.8: with a tail the centre is not known, and some drops are not.
func TestFiguresWithTail(t *testing.T) {
	f, e := figure.FiguresOf(asked(long(), 0, 10))
	want := [api.FigureCount]api.Range{span(0, 750), span(168375, 240000), {}, span(29, 41), span(986, 988)}
	wantSame(t, "a tail", f, e, known(want, api.FigureThirty, api.FigureCentre), api.OK)
}

// P5.8: figures as they follow from the definition.
func TestFiguresSlowly(t *testing.T) {
	r := rand.New(rand.NewSource(16))
	powers := slowPowers()
	for i := range 200 {
		a := fading(r)
		if i%2 == 0 {
			a = anyAsk(r)
		}
		f, e := figure.FiguresOf(a)
		wantSame(t, "FiguresOf", f, e, slowFigures(powers, a), api.OK)
	}
}

// P5.8: the errors of both asks, the first one's first.
func TestComparedErrors(t *testing.T) {
	for _, c := range wrongResponses() {
		for _, d := range wrongResponses() {
			f, e := figure.Compared(asked(c.r, 0, 0), asked(d.r, 0, 0))
			wantWrong(t, c.name+" ahead of "+d.name, f, e, c.want)
		}
		f, e := figure.Compared(asked(five(), -1, 0), asked(c.r, 0, 0))
		wantWrong(t, "noise ahead of "+c.name, f, e, api.ErrRange)
	}
}

// stepAt is a response that passes 10 decibels at a number.
func stepAt(at int) api.Response {
	r := onlyAt(8000, at+1, 0, 100)
	r.Samples[at-1] = 100
	return r
}

// parted is a response with so much energy ahead of a number, and from there on.
func parted(at, early, late int) api.Response {
	r := repeated(8000, api.MaxResponse, 0)
	fill := func(l []float32, energy int) {
		for i := range l {
			for size := 0; (size+1)*(size+1) <= energy && size < 30; size++ {
				l[i]++
			}
			energy -= int(l[i] * l[i])
		}
	}
	fill(r.Samples[:at], early)
	fill(r.Samples[at:], late)
	return r
}

// P5.8: pairs of responses around what still sounds alike.
func TestCompared(t *testing.T) {
	const no, maybe, yes = api.AnswerNo, api.AnswerMaybe, api.AnswerYes
	clear := func(early, late int) api.Response { return parted(640, early, late) }
	defined := func(early, late int) api.Response { return parted(400, early, late) }
	centred := func(at int) api.Response { return onlyAt(8000, api.MaxResponse, at, 1) }
	beside := centred(80)
	beside.Samples[80], beside.Samples[81] = 100, 1
	for _, c := range []struct {
		name   string
		a, b   api.Response
		figure int
		want   int
	}{
		{"a twentieth", stepAt(21), stepAt(21), api.FigureEarly, yes},
		{"more than a twentieth", stepAt(20), stepAt(20), api.FigureEarly, maybe},
		{"a twentieth of the lesser one", stepAt(41), stepAt(42), api.FigureEarly, yes},
		{"more than a twentieth of the lesser one", stepAt(40), stepAt(41), api.FigureEarly, maybe},
		{"apart by a twentieth", stepAt(18), stepAt(20), api.FigureEarly, maybe},
		{"apart by more", stepAt(18), stepAt(21), api.FigureEarly, no},
		{"far apart", stepAt(2), stepAt(900), api.FigureEarly, no},
		{"steep, but alike perhaps", stepAt(2), stepAt(2), api.FigureEarly, maybe},
		{"not known", stepAt(21), response(8000, 1), api.FigureEarly, maybe},
		{"neither known", response(8000, 1), response(8000, 1), api.FigureEarly, maybe},
		{"the same clarity", clear(10, 1), clear(100, 10), api.FigureClarity, yes},
		{"clarity of 10 to 10 and 10 to 11", clear(10, 1), clear(11, 1), api.FigureClarity, yes},
		{"clarity of 10 to 10 and 11 to 12", clear(10, 1), clear(13, 1), api.FigureClarity, maybe},
		{"clarity of 9 to 10 and 10 to 11", clear(9, 1), clear(11, 1), api.FigureClarity, maybe},
		{"clarity of 10 to 10 and 12 to 13", clear(10, 1), clear(17, 1), api.FigureClarity, no},
		{"clarity of -10 and 10", clear(1, 10), clear(10, 1), api.FigureClarity, no},
		{"clarity that is not known", clear(10, 1), clear(10, 0), api.FigureClarity, maybe},
		{"a definition of 500 and 550", defined(100, 100), defined(110, 90), api.FigureDefinition, yes},
		{"a definition of 500 and 551", defined(100, 100), defined(551, 449), api.FigureDefinition, no},
		{"a definition of 500 and 550 to 551", defined(100, 100), defined(1101, 899), api.FigureDefinition, maybe},
		{"a definition of 0 and 1000", defined(0, 1), defined(1, 0), api.FigureDefinition, no},
		{"a definition that is not known", defined(1, 1), response(8000, 0), api.FigureDefinition, maybe},
		{"a centre of 0 and 10000", centred(0), centred(80), api.FigureCentre, yes},
		{"a centre of 0 and 10125", centred(0), centred(81), api.FigureCentre, no},
		{"a centre of 0 and 10000 to 10001", centred(0), beside, api.FigureCentre, maybe},
		{"a centre of 10000 and 10000 to 10001", centred(80), beside, api.FigureCentre, yes},
		{"a centre that is not known", centred(0), response(8000, 0), api.FigureCentre, maybe},
	} {
		f, e := figure.Compared(asked(c.a, 0, 0), asked(c.b, 0, 0))
		wantSame(t, c.name, f[c.figure], e, c.want, api.OK)
		f, e = figure.Compared(asked(c.b, 0, 0), asked(c.a, 0, 0))
		wantSame(t, c.name+", the other way round", f[c.figure], e, c.want, api.OK)
	}
}

// slowAnswer goes through the ends of both ranges.
func slowAnswer(i int, a, b api.Range) int {
	greatest, least := 0, greatestInt
	for _, x := range list(a.Lo, a.Hi) {
		for _, y := range list(b.Lo, b.Hi) {
			greatest, least = max(greatest, x-y, y-x), min(least, max(x-y, y-x))
		}
	}
	if a.Lo <= b.Hi && b.Lo <= a.Hi {
		least = 0
	}
	limit := map[int]int{3: 1, 4: 50, 5: 10000}[i]
	if i < 3 && 20*greatest <= min(a.Lo, b.Lo) || i >= 3 && greatest <= limit {
		return api.AnswerYes
	}
	if i < 3 && 20*least > max(a.Hi, b.Hi) || i >= 3 && least > limit {
		return api.AnswerNo
	}
	return api.AnswerMaybe
}

// evenly is a response that fades for long, so that its figures are narrow if there is little noise.
func evenly(r *rand.Rand, fade float64) api.FigureAsk {
	x := response(8000)
	for size := float64(loud); len(x.Samples) < api.MaxResponse; size *= fade {
		x.Samples = append(x.Samples, float32(int(size)))
	}
	return asked(x, anyOf(r, 0, 0, 0, 3, 300), anyOf(r, 0, 0, 0, 500))
}

// P5.8, P5.13: all answers of pairs of responses, from their figures; and a response never sounds unlike itself.
func TestComparedSlowly(t *testing.T) {
	r := rand.New(rand.NewSource(17))
	var counts [api.FigureCount][3]int
	for range 400 {
		fade := 0.988 + 0.011*r.Float64()
		a, b := evenly(r, fade), evenly(r, min(fade+0.001*r.NormFloat64(), 1))
		f, _ := figure.FiguresOf(a)
		g, _ := figure.FiguresOf(b)
		var want [api.FigureCount]int
		for i := range want {
			want[i] = api.AnswerMaybe
			if f.Known[i] && g.Known[i] {
				want[i] = slowAnswer(i, f.Values[i], g.Values[i])
			}
			counts[i][want[i]]++
		}
		answers, e := figure.Compared(a, b)
		wantSame(t, "Compared", answers, e, want, api.OK)
		answers, _ = figure.Compared(a, a)
		for i, answer := range answers {
			if answer == api.AnswerNo {
				t.Errorf("the figure %d of %v is not like itself", i, a)
			}
		}
	}
	for i, l := range counts {
		if min(l[0], l[1], l[2]) < 5 {
			t.Errorf("the figure %d: the answers came so often: %v", i, l)
		}
	}
}

// P5.13: a response sounds like itself, if its ranges are narrow enough.
func TestLikeItself(t *testing.T) {
	a := evenly(rand.New(rand.NewSource(21)), 0.985)
	a.Noise, a.Tail = 0, 0
	answers, e := figure.Compared(a, a)
	yes := api.AnswerYes
	wantSame(t, "with itself", answers, e, [api.FigureCount]int{yes, yes, yes, yes, yes, yes}, api.OK)
}
