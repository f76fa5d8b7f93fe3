package array_test

import (
	"math"
	"math/rand"
	"testing"

	"shoebox/api"
	"shoebox/array"
)

// pressureCase is an array at a seat, and all that is told of its pressure there.
type pressureCase struct {
	a            api.Array
	seat         api.Place
	re, im       int
	ends         [2]api.Range
	size, energy api.Range
}

// doubtful is a loudspeaker that is 26 or 27 samples away from its seat, with strengths from 32074 to 32076.
func doubtful(gain, delay int) api.Array {
	return api.Array{Rate: 34000, Speed: 40000, Speakers: []api.ArraySpeaker{speaker(place(0, 0, 0), gain, delay)}}
}

func doubtfulSeat() api.Place { return place(-22, 2, 22) }

// near is a loudspeaker that is 14 samples away, with strengths from 70706 to 70712.
func near(delay int) api.Array { return plainArray(speaker(place(0, 0, 0), 1, delay)) }

func pressureCases() []pressureCase {
	exact := func(re, im int) [2]api.Range { return [2]api.Range{between(re, re), between(im, im)} }
	wide := func(re, im, toRe, toIm int) [2]api.Range {
		return [2]api.Range{between(re, toRe), between(im, toIm)}
	}
	both := between(5562500000000, 5562500000000)
	once := between(320740*320740, 320760*320760)
	nearOnce := between(70706*70706, 70712*70712)
	beside := place(10, 10, 0)
	return []pressureCase{
		{pair(400), seat(), 3250000, 0, exact(3250000, 0), between(3250000, 3250000), both},
		{pair(401), seat(), 2000000, -1250000, exact(2000000, -1250000), between(2358495, 2358496), both},
		{pair(402), seat(), 750000, 0, exact(750000, 0), between(750000, 750000), both},
		{pair(403), seat(), 2000000, 1250000, exact(2000000, 1250000), between(2358495, 2358496), both},
		{near(0), beside, -70706, 0, wide(-70712, 0, -70706, 0), between(70706, 70712), nearOnce},
		{near(1), beside, 0, 70706, wide(0, 70706, 0, 70712), between(70706, 70712), nearOnce},
		{near(2), beside, 70706, 0, wide(70706, 0, 70712, 0), between(70706, 70712), nearOnce},
		{near(3), beside, 0, -70706, wide(0, -70712, 0, -70706), between(70706, 70712), nearOnce},
		{doubtful(10, 0), doubtfulSeat(), -320740, 0, wide(-320760, 0, 0, 320760), between(0, 453624), once},
		{doubtful(10, 1), doubtfulSeat(), 0, 320740, wide(0, 0, 320760, 320760), between(0, 453624), once},
		{doubtful(10, 2), doubtfulSeat(), 320740, 0, wide(0, -320760, 320760, 0), between(0, 453624), once},
		{doubtful(10, 3), doubtfulSeat(), 0, -320740, wide(-320760, -320760, 0, 0), between(0, 453624), once},
		{doubtful(0, 3), doubtfulSeat(), 0, 0, exact(0, 0), between(0, 0), between(0, 0)},
		{doubtful(10, mostDelay), doubtfulSeat(), -320740, 0, wide(-320760, 0, 0, 320760), between(0, 453624), once},
	}
}

// P7.3: pressures, ends, sizes and energies, with the edges.
func TestPressures(t *testing.T) {
	for _, c := range pressureCases() {
		p, e := array.PressureAt(c.a, c.seat)
		wantSame(t, "PressureAt", p, e, complex(float64(c.re), float64(c.im)), api.OK)
		ends, e := array.EndsAt(c.a, c.seat)
		wantSame(t, "EndsAt", ends, e, c.ends, api.OK)
		size, e := array.SizeAt(c.a, c.seat)
		wantSame(t, "SizeAt", size, e, c.size, api.OK)
		energy, e := array.EnergyAt(c.a, c.seat)
		wantSame(t, "EnergyAt", energy, e, c.energy, api.OK)
	}
}

// P7.3: the loudest array that there can be.
func TestLoudest(t *testing.T) {
	var l []api.ArraySpeaker
	for range 8 {
		l = append(l, speaker(place(0, 0, 10), mostGain, 0))
	}
	a := plainArray(l...) // ten samples away
	const most = 800000000
	p, e := array.PressureAt(a, place(0, 0, 0))
	wantSame(t, "PressureAt", p, e, complex(-most, 0), api.OK)
	size, e := array.SizeAt(a, place(0, 0, 0))
	wantSame(t, "SizeAt", size, e, between(most, most), api.OK)
	energy, e := array.EnergyAt(a, place(0, 0, 0))
	wantSame(t, "EnergyAt", energy, e, between(most*most/8, most*most/8), api.OK)
}

// P7.3: the greatest size that there can be: of the loudest array, three or four samples away.
func TestGreatestSize(t *testing.T) {
	a := api.Array{Rate: 13998, Speed: 40000} // 3.4995 samples in 10 centimetres
	for range 8 {
		a.Speakers = append(a.Speakers, speaker(place(0, 0, 10), mostGain, 0))
	}
	ends, e := array.EndsAt(a, place(0, 0, 0))
	wantSame(t, "EndsAt", ends, e, [2]api.Range{between(0, 800000000), between(0, 800000000)}, api.OK)
	size, e := array.SizeAt(a, place(0, 0, 0))
	wantSame(t, "SizeAt", size, e, between(0, 1131370850), api.OK)
}

// P7.3: the same as after the definitions.
func TestPressuresSlowly(t *testing.T) {
	r := rand.New(rand.NewSource(73))
	unsure := 0
	for range 5000 {
		a := anyArray(r, 8)
		at := anySeat(r, a)
		re, im := slowPressure(a, at)
		p, e := array.PressureAt(a, at)
		wantSame(t, "PressureAt", p, e, complex(float64(re), float64(im)), api.OK)
		ends, e := array.EndsAt(a, at)
		wantSame(t, "EndsAt", ends, e, slowEnds(a, at), api.OK)
		size, e := array.SizeAt(a, at)
		wantSame(t, "SizeAt", size, e, slowSize(a, at), api.OK)
		energy, e := array.EnergyAt(a, at)
		wantSame(t, "EnergyAt", energy, e, slowEnergy(a, at), api.OK)
		if ends[0].Lo < 0 && ends[0].Hi > 0 {
			unsure++
		}
	}
	if unsure < 10 {
		t.Errorf("only %d real parts had no sign", unsure)
	}
}

// isWithin tells whether a number is in a range.
func isWithin(n float64, r api.Range) bool { return float64(r.Lo) <= n && n <= float64(r.Hi) }

// P7.6: the pressure lies within its ends, and its size within SizeAt.
func TestPressureIsWithin(t *testing.T) {
	r := rand.New(rand.NewSource(76))
	for range 2000 {
		a := anyArray(r, 8)
		at := anySeat(r, a)
		p, _ := array.PressureAt(a, at)
		ends, _ := array.EndsAt(a, at)
		size, e := array.SizeAt(a, at)
		if !isWithin(real(p), ends[0]) || !isWithin(imag(p), ends[1]) || e != api.OK {
			t.Errorf("%v at %v: %v, ends %v", a, at, p, ends)
		}
		square := int(real(p))*int(real(p)) + int(imag(p))*int(imag(p))
		if square < size.Lo*size.Lo || square > size.Hi*size.Hi {
			t.Errorf("%v at %v: %v, size %v", a, at, p, size)
		}
	}
}

// P7.6: with all delays one more the pressure is turned by -i; with all gains 0 it is 0.
func TestPressureTurns(t *testing.T) {
	r := rand.New(rand.NewSource(761))
	for range 1000 {
		a := anyArray(r, 8)
		for i := range a.Speakers {
			a.Speakers[i].Delay %= mostDelay
		}
		at := anySeat(r, a)
		p, _ := array.PressureAt(a, at)
		for i := range a.Speakers {
			a.Speakers[i].Delay++
		}
		turned, e := array.PressureAt(a, at)
		wantSame(t, "turned", turned, e, complex(imag(p), -real(p)), api.OK)
		for i := range a.Speakers {
			a.Speakers[i].Gain = 0
		}
		silent, e := array.PressureAt(a, at)
		wantSame(t, "silent", silent, e, 0, api.OK)
		ends, e := array.EndsAt(a, at)
		wantSame(t, "silent ends", ends, e, [2]api.Range{}, api.OK)
		size, e := array.SizeAt(a, at)
		wantSame(t, "silent size", size, e, api.Range{}, api.OK)
	}
}

// R5: no part of a pressure is -0.
func TestNoMinusZero(t *testing.T) {
	isMinusZero := func(n float64) bool { return n == 0 && math.Signbit(n) }
	for gain := range 2 {
		for first := range 4 {
			for second := range 4 {
				for _, a := range []api.Array{
					plainArray(speaker(place(0, 0, 0), gain, first)),
					plainArray(speaker(place(0, 0, 0), gain, first), speaker(place(0, 0, 0), gain, second)),
					plainArray(speaker(place(0, 0, 0), 0, first), speaker(place(0, 0, 0), gain, second)),
				} {
					p, e := array.PressureAt(a, seat())
					if isMinusZero(real(p)) || isMinusZero(imag(p)) || e != api.OK {
						t.Errorf("%v: %v, error %d", a, p, e)
					}
				}
			}
		}
	}
}

// P7.7: what a loudspeaker gives, and what all others give, is together what all give.
func TestSums(t *testing.T) {
	r := rand.New(rand.NewSource(77))
	for range 1000 {
		a := anyArray(r, 8)
		at := anySeat(r, a)
		one := r.Intn(len(a.Speakers))
		others, e := array.Muted(a, one)
		alone := a
		for i := range a.Speakers {
			if i != one {
				alone, _ = array.Muted(alone, i)
			}
		}
		p, _ := array.PressureAt(others, at)
		q, _ := array.PressureAt(alone, at)
		all, _ := array.PressureAt(a, at)
		wantSame(t, "PressureAt", all, e, p+q, api.OK)
		x, _ := array.EndsAt(others, at)
		y, _ := array.EndsAt(alone, at)
		ends, e := array.EndsAt(a, at)
		wantSame(t, "EndsAt", ends, e, [2]api.Range{together(x[0], y[0]), together(x[1], y[1])}, api.OK)
		u, _ := array.EnergyAt(others, at)
		v, _ := array.EnergyAt(alone, at)
		energy, e := array.EnergyAt(a, at)
		wantSame(t, "EnergyAt", energy, e, together(u, v), api.OK)
	}
}
