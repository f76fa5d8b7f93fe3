package loop_test

import (
	"math"
	"math/cmplx"
	"math/rand"
	"testing"

	"shoebox/api"
	"shoebox/loop"
)

// P8.1: unit numbers of the examples, and around the circle.
func TestUnitOf(t *testing.T) {
	for _, c := range []struct {
		m    int
		want api.LoopBall
	}{
		{0, ball(unit, 0, 0)}, {512, ball(741455, 741455, 2)}, {1024, ball(0, unit, 0)}, {1536, ball(-741455, 741455, 2)}, {2048, ball(-unit, 0, 0)}, {2560, ball(-741455, -741455, 2)},
		{3072, ball(0, -unit, 0)}, {3584, ball(741455, -741455, 2)}, {4096, ball(unit, 0, 0)}, {-512, ball(741455, -741455, 2)}, {-1024, ball(0, -unit, 0)},
		{4096000001, ball(1048575, 1609, 2)}, {-4096000001, ball(1048575, -1608, 2)}, {leastInt, ball(unit, 0, 0)}, {greatestInt, ball(1048575, -1608, 2)},
	} {
		wantSame(t, "UnitOf", loop.UnitOf(c.m), 0, c.want, 0)
	}
	for m := range 4096 {
		wantSame(t, "UnitOf", loop.UnitOf(m), 0, slowUnit(m), 0)
	}
	r := rand.New(rand.NewSource(812))
	for range 2000 {
		m := anyOf(r, 1, -1) * (r.Int() >> r.Intn(63))
		wantSame(t, "UnitOf", loop.UnitOf(m), 0, slowUnit(m), 0)
	}
}

// P8.1: true numbers are in unit numbers.
func TestUnitsAreTrue(t *testing.T) {
	for m := range 4096 {
		b := loop.UnitOf(m)
		exact := cmplx.Rect(unit, 2*math.Pi*float64(m)/4096)
		if cmplx.Abs(exact-complex(float64(b.X), float64(b.Y))) > float64(b.R)+1e-6 {
			t.Errorf("UnitOf %d: %v, the true one is %v", m, b, exact)
		}
	}
}

// P8.1: values of the examples, and at the ends of what may be asked.
func TestValueAt(t *testing.T) {
	for _, c := range []struct {
		loop api.Loop
		m    int
		want api.LoopBall
	}{
		{halved(1000), 0, ball(524288, 0, 0)}, {halved(1000), 1024, ball(0, -524288, 0)}, {halved(1000), 2048, ball(-524288, 0, 0)}, {halved(1000), -1024, ball(0, 524288, 0)},
		{halved(2500), 0, ball(1310720, 0, 0)}, {halved(1000), 512, ball(370728, -370727, 2)}, {looped(1, 0, 1), 0, ball(0, 0, 1)}, {looped(mostGain, 0), 77, ball(0, 0, 0)},
		{halved(0), 77, ball(0, 0, 0)}, {looped(500, 0, fullTap), 512, ball(370728, -370727, 2)}, {looped(1000, 0, fullTap), 512, ball(741455, -741455, 2)},
		{halved(1000), 4096, ball(524288, 0, 0)}, {looped(1000, 0, 0, fullTap), 512, ball(0, -unit, 0)}, {looped(1000, 0, fullTap, fullTap), 1024, ball(-unit, -unit, 0)},
		{looped(8, 0, 125), 0, ball(64, 0, 0)}, {looped(125, 0, 8), 1024, ball(0, -64, 0)}, {looped(8, 0, 1), 1024, ball(0, -1, 1)}, {looped(1, 0, 0, -7), 512, ball(0, 0, 1)},
		// at an eighth of the turn each second tap is exact
		{looped(1000, 0, 0, 0, 0, fullTap), 512, ball(-unit, 0, 0)}, {looped(1000, 0, 0, 0, -fullTap), 512, ball(741455, 741455, 2)},
	} {
		b, e := loop.ValueAt(c.loop, c.m)
		wantSame(t, "ValueAt", b, e, c.want, api.OK)
	}
	for _, m := range list(1000001, -1000001, leastInt, greatestInt) {
		b, e := loop.ValueAt(halved(1000), m)
		wantSame(t, "ValueAt", b, e, ball(0, 0, 0), api.ErrRange)
	}
	r := rand.New(rand.NewSource(813))
	for _, l := range rightLoops() {
		for _, m := range list(1000000, -1000000, 1, -1, 2047) {
			b, e := loop.ValueAt(l, m)
			wantSame(t, "ValueAt", b, e, slowValue(l, m), api.OK)
		}
	}
	for range 3000 {
		l, m := anyLoop(r), anyOf(r, 1000000, -1000000, 512*from(r, -20, 20), from(r, 0, half), from(r, -1000000, 1000000))
		b, e := loop.ValueAt(l, m)
		wantSame(t, "ValueAt", b, e, slowValue(l, m), api.OK)
	}
}

// trueValue is a loop's value at a part of the turn, in floats.
func trueValue(l api.Loop, part float64) complex128 {
	var sum complex128
	for k, tap := range l.Taps {
		sum += complex(float64(tap), 0) * cmplx.Rect(1, -2*math.Pi*part*float64(k)/4096)
	}
	return sum * complex(unit*float64(l.Gain)/(16384*1000), 0)
}

// wantIn tests that a true value is in a ball, but for what floats may be wrong.
func wantIn(t *testing.T, name string, l api.Loop, part float64, b api.LoopBall) {
	t.Helper()
	v := trueValue(l, part)
	if d := cmplx.Abs(v - complex(float64(b.X), float64(b.Y))); d > float64(b.R)+1e-4 {
		t.Errorf("%s of %v at %v: %v is not in %v", name, l, part, v, b)
	}
}

// P8.2: the true values at all angles of an arc are in its ball, and that at m in the value there.
func TestBallsAreTrue(t *testing.T) {
	r := rand.New(rand.NewSource(82))
	for range 1000 {
		l, a := anyLoop(r), anyArc(r)
		b, _ := loop.ArcBall(l, a)
		for _, part := range []float64{0, 1, r.Float64(), r.Float64()} {
			wantIn(t, "ArcBall", l, float64(a.From)+part*float64(a.To-a.From), b)
		}
		m := from(r, -5000, 5000)
		b, _ = loop.ValueAt(l, m)
		wantIn(t, "ValueAt", l, float64(m), b)
	}
}

// P8.2: balls of arcs.
func TestArcBall(t *testing.T) {
	for _, c := range []struct {
		loop api.Loop
		arc  api.LoopArc
		want api.LoopBall
	}{
		{halved(1000), arc(0, half), ball(0, -524288, 823657)}, {halved(1000), arc(0, 0), ball(524288, 0, 0)}, {halved(1000), arc(half, half), ball(-524288, 0, 0)},
		{halved(1000), arc(1024, 1024), ball(0, -524288, 0)}, {halved(1000), arc(1024, 1025), ball(0, -524288, 805)}, {halved(1000), arc(1023, 1025), ball(0, -524288, 805)},
		{halved(1000), arc(512, 512), ball(370728, -370727, 2)}, {looped(mostGain, 0), arc(0, half), ball(0, 0, 0)}, {halved(0), arc(3, 900), ball(0, 0, 0)},
		// the third tap sways three times as much
		{looped(1000, 0, 0, 0, -8192), arc(1024, 1025), ball(0, -524288, 2414)}, {looped(1000, 0, 0, 8192), arc(1023, 1025), ball(-524288, 0, 1609)},
	} {
		b, e := loop.ArcBall(c.loop, c.arc)
		wantSame(t, "ArcBall", b, e, c.want, api.OK)
	}
	for _, l := range rightLoops() {
		for _, a := range arcs(arc(0, half), arc(0, 1), arc(2047, half), arc(1000, 1004)) {
			b, e := loop.ArcBall(l, a)
			wantSame(t, "ArcBall", b, e, slowBall(l, a), api.OK)
		}
	}
	r := rand.New(rand.NewSource(821))
	for range 3000 {
		l, a := anyLoop(r), anyArc(r)
		b, e := loop.ArcBall(l, a)
		wantSame(t, "ArcBall", b, e, slowBall(l, a), api.OK)
	}
}

// P8.2: which balls are clear.
func TestIsClear(t *testing.T) {
	for _, b := range []api.LoopBall{
		ball(0, 0, 0), ball(unit-1, 0, 0), ball(0, 0, unit-1), ball(-5, 0, unit+4), ball(unit, 1, 0), ball(unit, -1, 0), ball(unit, 5, 4), ball(unit, -5, 4),
		ball(-mostNumber, 0, mostNumber), ball(mostNumber, mostNumber, mostNumber-1), ball(mostNumber, -mostNumber, 0), ball(-mostNumber, 0, 0), ball(0, mostNumber, mostNumber-1), ball(unit-10, 3, 9),
	} {
		wantSame(t, "IsClear", loop.IsClear(b), 0, true, 0)
	}
	for _, b := range []api.LoopBall{
		ball(unit, 0, 0), ball(unit-1, 0, 1), ball(0, 0, unit), ball(unit, 4, 4), ball(unit, -4, 4), ball(unit-9, 9, 9), ball(unit-9, -9, 9), ball(greatestInt, 0, 1), ball(mostNumber, mostNumber, mostNumber), ball(-5, 0, unit+5),
		ball(0, 0, -1), ball(0, 5, -1), ball(-unit, -5, -5), ball(0, 0, leastInt), ball(mostNumber+1, 5, 0), ball(-mostNumber-1, 0, 0), ball(0, mostNumber+1, 0), ball(0, -mostNumber-1, 0),
		ball(-mostNumber, 0, mostNumber+1), ball(leastInt, 0, 0), ball(0, leastInt, 0), ball(greatestInt, 1, 0), ball(0, greatestInt, 0), ball(leastInt, 0, greatestInt), ball(leastInt, leastInt, leastInt),
	} {
		wantSame(t, "IsClear", loop.IsClear(b), 0, false, 0)
	}
	r := rand.New(rand.NewSource(822))
	for range 20000 {
		x, rest := anyOf(r, unit, from(r, -2*unit, 2*unit)), anyOf(r, 0, from(r, 0, 5), from(r, 0, 2*unit))
		b := ball(anyOf(r, x, unit-rest+from(r, -1, 1)), anyOf(r, 0, 1, -1)*(rest+from(r, -2, 2)), rest)
		wantSame(t, "IsClear", loop.IsClear(b), 0, slowClear(b), 0)
	}
}

// meets tells whether no number of a ball is farther from that of another one than both reach.
func meets(a, b api.LoopBall) bool {
	far := a.R + b.R
	return max(a.X-b.X, b.X-a.X) <= far && max(a.Y-b.Y, b.Y-a.Y) <= far
}

// P8.8: values at -m, and of opposite taps.
func TestOppositeValues(t *testing.T) {
	r := rand.New(rand.NewSource(88))
	for range 3000 {
		l, m := anyLoop(r), from(r, -1000000, 1000000)
		v, _ := loop.ValueAt(l, m)
		back, _ := loop.ValueAt(l, -m)
		opposite := looped(l.Gain)
		for _, tap := range l.Taps {
			opposite.Taps = append(opposite.Taps, -tap)
		}
		minus, _ := loop.ValueAt(opposite, m)
		if !meets(v, ball(back.X, -back.Y, back.R)) || !meets(v, ball(-minus.X, -minus.Y, minus.R)) {
			t.Errorf("%v at %d: %v, at the opposite %v, of opposite taps %v", l, m, v, back, minus)
		}
	}
}
