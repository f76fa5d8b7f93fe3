package loop_test

import (
	"math/rand"
	"slices"
	"testing"

	"shoebox/api"
	"shoebox/loop"
)

func yes(l ...api.LoopArc) api.LoopProof { return api.LoopProof{Answer: api.AnswerYes, Arcs: l} }

func no(a api.LoopArc) api.LoopProof { return api.LoopProof{Answer: api.AnswerNo, Rings: a} }

func maybe() api.LoopProof { return api.LoopProof{Answer: api.AnswerMaybe} }

// third is a loop with a third tap alone: it is near to ringing at a third of the turn.
func third(gain, tap int) api.Loop { return looped(gain, 0, 0, 0, tap) }

// P8.3: what is found of loops.
func TestDecide(t *testing.T) {
	for _, c := range []struct {
		loop api.Loop
		want api.LoopProof
	}{
		{halved(1000), yes(arc(0, half))}, {looped(mostGain, 0), yes(arc(0, half))}, {halved(0), yes(arc(0, half))},
		{halved(1300), yes(chain(0, 1024, half)...)}, {halved(1700), yes(chain(0, 128, 256, 512, 1024, half)...)},
		{halved(2500), no(arc(0, 0))}, {halved(2000), no(arc(0, 0))}, {looped(2500, 0, -8192), no(arc(half, half))}, {halved(mostGain), no(arc(0, 0))},
		{third(1100, fullTap), no(arc(0, 0))}, {third(1100, -fullTap), no(arc(half, half))}, {looped(1100, 0, 0, fullTap), no(arc(0, 0))}, {looped(1100, 0, 0, -fullTap), no(arc(1020, 1028))}, {halved(1999), maybe()},
		{looped(1200, 0, -fullTap, -fullTap), no(arc(1364, 1368))},
	} {
		p, e := loop.Decide(c.loop)
		wantProof(t, "Decide", p, e, c.want, api.OK)
	}
}

// P8.3: an open arc joined with the next one is tried last, where the values at the place between them have no side.
func TestDecideOnJoinedArcs(t *testing.T) {
	for _, l := range loops(looped(1100, 0, 0, -fullTap), looped(2000, 0, 0, -fullTap), looped(4000, 0, 0, -fullTap/2)) {
		p, e := loop.Decide(l)
		wantProof(t, "Decide", p, e, no(arc(1020, 1028)), api.OK)
		wantError(t, "CheckRings", loop.CheckRings(l, arc(1020, 1028)), api.OK)
		wantError(t, "CheckRings", loop.CheckRings(l, arc(1020, 1024)), api.ErrProof)
		wantError(t, "CheckRings", loop.CheckRings(l, arc(1024, 1028)), api.ErrProof)
	}
}

// edgeLoop has a gain next to the greatest one with which it is proved that it never rings.
func edgeLoop(r *rand.Rand) api.Loop {
	l := nearLoop(r)
	most := mostGain
	l.Gain = 0
	for l.Gain < most {
		middle := looped((l.Gain+most+1)/2, l.Taps...)
		if p, _ := loop.Decide(middle); p.Answer == api.AnswerYes {
			l.Gain = middle.Gain
		} else {
			most = middle.Gain - 1
		}
	}
	l.Gain = min(mostGain, l.Gain+anyOf(r, 0, 1, 2, l.Gain/400, l.Gain/60))
	return l
}

// P8.3: what is found of any loops, often of such as are near to ringing.
func TestDecideAny(t *testing.T) {
	r := rand.New(rand.NewSource(83))
	met := map[int]int{}
	for i := range 600 {
		l := nearLoop(r)
		if i%10 == 0 {
			l = anyLoop(r)
		}
		if i%3 == 0 {
			l = edgeLoop(r)
		}
		p, e := loop.Decide(l)
		wantProof(t, "Decide", p, e, slowFound(l), api.OK)
		met[p.Answer]++
	}
	for _, answer := range list(api.AnswerNo, api.AnswerMaybe, api.AnswerYes) {
		if met[answer] < 30 {
			t.Errorf("the answer %d was met %d times", answer, met[answer])
		}
	}
}

// P8.3: the first loop that is open.
func TestFirstOpen(t *testing.T) {
	quiet, near, rings := halved(1000), halved(1999), halved(2500)
	for _, c := range []struct {
		loops []api.Loop
		want  int
	}{
		{loops(quiet, rings), 1}, {loops(rings), 0}, {loops(near), 0}, {loops(quiet, near, rings), 1}, {loops(quiet, rings, near), 1}, {loops(rings, near, quiet), 0},
		{append(slices.Repeat(loops(quiet), 15), near), 15}, {append(slices.Repeat(loops(quiet), 15), rings), 15}, {loops(quiet, quiet, looped(1100, 0, 0, -fullTap), quiet), 2},
	} {
		n, e := loop.FirstOpen(c.loops)
		wantSame(t, "FirstOpen", n, e, c.want, api.OK)
	}
	for _, l := range [][]api.Loop{loops(quiet), slices.Repeat(loops(quiet), 16), loops(looped(mostGain, 0), halved(0))} {
		n, e := loop.FirstOpen(l)
		wantSame(t, "FirstOpen", n, e, 0, api.ErrNone)
	}
}

// P8.3: margins of loops.
func TestMargin(t *testing.T) {
	for _, c := range []struct {
		loops []api.Loop
		want  int
	}{
		{loops(looped(1000, 0)), 4000}, {loops(looped(0, 0, fullTap)), 4000}, {loops(looped(5000, 0)), 2000}, {loops(looped(mostGain, 0)), 1000}, {loops(looped(2500, 0)), 4000}, {loops(looped(2501, 0)), 3900},
		{loops(looped(9091, 0)), 1000}, {loops(looped(9090, 0)), 1100}, {loops(halved(1000)), 1900}, {loops(halved(2000)), 900}, {loops(halved(2500)), 700}, {loops(looped(2500, 0, -8192)), 700},
		{loops(looped(mostGain, 0, fullTap)), 0}, {loops(halved(1000), halved(2500)), 700}, {loops(halved(2500), halved(1000)), 700}, {slices.Repeat(loops(halved(1000)), 16), 1900},
		{append(slices.Repeat(loops(halved(1000)), 15), halved(1250)), 1500}, {loops(looped(5000, 0), halved(1250)), 1500}, {loops(looped(mostGain, 0), halved(1250)), 1000},
	} {
		n, e := loop.Margin(c.loops)
		wantSame(t, "Margin", n, e, c.want, api.OK)
	}
	r := rand.New(rand.NewSource(831))
	for range 100 {
		l := loops(nearLoop(r))
		for range r.Intn(3) {
			l = append(l, anyOf(r, nearLoop(r), looped(from(r, 0, 3000), 0, from(r, -9000, 9000))))
		}
		n, e := loop.Margin(l)
		wantSame(t, "Margin", n, e, slowMargin(l), api.OK)
	}
}

// P8.3: the errors of loops.
func TestLoopsErrors(t *testing.T) {
	calls := map[string]func([]api.Loop) (int, api.Errno){"FirstOpen": loop.FirstOpen, "Margin": loop.Margin}
	for name, f := range calls {
		wrong := func(l []api.Loop, want api.Errno) {
			t.Helper()
			n, e := f(l)
			wantSame(t, name, n, e, 0, want)
		}
		wrong(nil, api.ErrShape)
		wrong(loops(), api.ErrShape)
		wrong(slices.Repeat(loops(halved(1000)), 17), api.ErrLarge)
		wrong(make([]api.Loop, 17), api.ErrLarge)
		for _, c := range wrongLoops() {
			wrong(loops(c.loop), c.want)
			wrong(loops(halved(2500), c.loop), c.want)
			wrong(loops(halved(1000), c.loop, api.Loop{}, looped(1, 1)), c.want)
			wrong(append(slices.Repeat(loops(halved(1000)), 15), c.loop), c.want)
		}
	}
}

// P8.7: arcs that are accepted and an arc on which the loop rings are never there of the same loop, nor one with a lesser gain.
func TestNothingRings(t *testing.T) {
	r := rand.New(rand.NewSource(87))
	accepted, ringing := 0, 0
	for i := range 500 {
		l := nearLoop(r)
		if i%3 == 0 {
			l = edgeLoop(r)
		}
		if i%4 == 0 {
			l.Gain = min(mostGain, l.Gain*from(r, 2, 5))
		}
		p, _ := loop.Decide(l)
		switch p.Answer {
		case api.AnswerYes:
			accepted++
			n, e := loop.CheckArcs(l, p.Arcs)
			wantSame(t, "CheckArcs", n, e, len(p.Arcs), api.OK)
			wantQuiet(t, r, l)
			wantQuiet(t, r, looped(from(r, 0, l.Gain), l.Taps...))
			wantTrulyQuiet(t, l)
		case api.AnswerNo:
			ringing++
			wantError(t, "CheckRings", loop.CheckRings(l, p.Rings), api.OK)
			for _, width := range list(half, 64, 8, 4) {
				n, e := loop.CheckArcs(l, evenChain(width))
				wantSame(t, "CheckArcs", n, e, 0, api.ErrProof)
			}
		}
	}
	if min(accepted, ringing) < 50 {
		t.Errorf("only %d were accepted, %d rang", accepted, ringing)
	}
}

// wantQuiet tests that a loop rings on no arc, of some.
func wantQuiet(t *testing.T, r *rand.Rand, l api.Loop) {
	t.Helper()
	tried := arcs(arc(0, 0), arc(half, half), anyArc(r), anyArc(r))
	for range 20 {
		m := from(r, 0, half-8)
		tried = append(tried, arc(m, m+r.Intn(9)))
	}
	for _, a := range tried {
		wantError(t, "CheckRings", loop.CheckRings(l, a), api.ErrProof)
	}
}

// wantTrulyQuiet tests, in floats, that nowhere on the circle a value crosses the real numbers from 1 on.
func wantTrulyQuiet(t *testing.T, l api.Loop) {
	t.Helper()
	const steps = 4
	before := trueValue(l, 0)
	for i := range half * steps {
		v := trueValue(l, float64(i+1)/steps)
		if imag(before)*imag(v) <= 0 && real(before) >= unit && real(v) >= unit {
			t.Errorf("%v rings at %d", l, i/steps)
			return
		}
		before = v
	}
}

// P8.7: a loop whose size is at most 900 never rings.
func TestSmallLoops(t *testing.T) {
	r := rand.New(rand.NewSource(871))
	for range 400 {
		l := looped(mostGain, anyTaps(r)...)
		for n, _ := loop.SizeOf(l); n > 900; n, _ = loop.SizeOf(l) {
			l.Gain = min(l.Gain-1, l.Gain*900/n+1)
		}
		p, e := loop.Decide(l)
		wantSame(t, "Decide", p.Answer, e, api.AnswerYes, api.OK)
		n, e := loop.CheckArcs(l, p.Arcs)
		wantSame(t, "CheckArcs", n, e, len(p.Arcs), api.OK)
	}
}

// The margin of a loop that rings with its own gain is below 1000.
func TestMarginOfRinging(t *testing.T) {
	r := rand.New(rand.NewSource(832))
	for range 100 {
		l := nearLoop(r)
		if p, _ := loop.Decide(l); p.Answer != api.AnswerNo {
			continue
		}
		if n, e := loop.Margin(loops(l, halved(1))); n >= 1000 || e != api.OK {
			t.Errorf("Margin of %v: %d, error %d", l, n, e)
		}
	}
}
