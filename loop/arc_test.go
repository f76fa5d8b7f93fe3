package loop_test

import (
	"math/rand"
	"slices"
	"testing"

	"shoebox/api"
	"shoebox/loop"
)

// wrongArc is an arc that is none, and its error.
type wrongArc struct {
	arc  api.LoopArc
	want api.Errno
}

func wrongArcs() []wrongArc {
	return []wrongArc{
		{arc(-1, 5), api.ErrRange}, {arc(0, half+1), api.ErrRange}, {arc(half+1, half+1), api.ErrRange}, {arc(half+1, 0), api.ErrRange}, {arc(5, -1), api.ErrRange}, {arc(-1, -1), api.ErrRange},
		{arc(leastInt, greatestInt), api.ErrRange}, {arc(0, greatestInt), api.ErrRange}, {arc(greatestInt, 0), api.ErrRange}, {arc(leastInt, 0), api.ErrRange}, {arc(0, leastInt), api.ErrRange},
		{arc(1, 0), api.ErrOrder}, {arc(half, 0), api.ErrOrder}, {arc(half, half-1), api.ErrOrder}, {arc(1025, 1024), api.ErrOrder},
	}
}

// P8.2: arcs that prove that a loop never rings.
func TestCheckArcs(t *testing.T) {
	for _, c := range []struct {
		loop api.Loop
		arcs []api.LoopArc
	}{
		{halved(1000), arcs(arc(0, half))}, {halved(1000), chain(0, 1024, half)}, {halved(1000), chain(0, 0, 0, 5, 5, half, half)}, {halved(1000), chain(0, 1, 2, 2000, half)},
		{looped(mostGain, 0), arcs(arc(0, half))}, {halved(0), chain(0, 7, half)}, {halved(1000), evenChain(4)}, {halved(1000), append(evenChain(8), slices.Repeat(arcs(arc(half, half)), 256)...)},
		{halved(1980), evenChain(4)}, {looped(9900, 0, -1638), evenChain(4)},
	} {
		n, e := loop.CheckArcs(c.loop, c.arcs)
		wantSame(t, "CheckArcs", n, e, len(c.arcs), api.OK)
	}
}

// P8.2: what is no proof, and why not.
func TestCheckArcsErrors(t *testing.T) {
	all := arc(0, half)
	for _, c := range []struct {
		loop api.Loop
		arcs []api.LoopArc
		want api.Errno
	}{
		{halved(1000), nil, api.ErrGap}, {halved(1000), arcs(), api.ErrGap}, {halved(2500), nil, api.ErrGap}, {looped(1000, 0), nil, api.ErrGap},
		{halved(1000), arcs(arc(0, half-1)), api.ErrGap}, {halved(1000), arcs(arc(0, 0)), api.ErrGap}, {halved(1000), arcs(arc(1, half)), api.ErrGap}, {halved(1000), arcs(arc(half, half)), api.ErrGap},
		{halved(1000), arcs(all, arc(0, half)), api.ErrGap}, {halved(1000), arcs(arc(0, 5), arc(6, half)), api.ErrGap}, {halved(1000), arcs(arc(0, 5), arc(4, half)), api.ErrGap},
		{halved(1000), chain(0, 5, half, half)[1:], api.ErrGap}, {halved(1000), arcs(arc(0, 5), arc(0, 5), arc(5, half)), api.ErrGap}, {halved(1000), arcs(arc(5, half), arc(0, 5)), api.ErrGap},
		{halved(2500), arcs(all), api.ErrProof}, {halved(2500), evenChain(4), api.ErrProof}, {halved(2000), evenChain(4), api.ErrProof}, {halved(1500), arcs(all), api.ErrProof},
		{looped(1000, 0, -fullTap), evenChain(4), api.ErrProof}, {looped(2500, 0, -8192), evenChain(4), api.ErrProof},
		// the first arc with an error decides, and of its errors the first one
		{halved(2500), arcs(arc(1, half)), api.ErrGap}, {halved(2500), arcs(arc(0, 5), arc(6, 3)), api.ErrProof}, {halved(1000), arcs(arc(1, 5), arc(6, 3)), api.ErrGap},
		{halved(1000), arcs(arc(0, 5), arc(6, 3)), api.ErrOrder}, {halved(1000), arcs(arc(0, 5), arc(6, 3000)), api.ErrRange}, {halved(1000), arcs(arc(0, 5), arc(half+1, 3)), api.ErrRange},
		{halved(2500), arcs(arc(half, 0)), api.ErrOrder}, {halved(2500), arcs(arc(0, half+1)), api.ErrRange}, {halved(1000), arcs(arc(0, 5), arc(5, 9), arc(8, 7)), api.ErrOrder},
		{halved(1000), slices.Repeat(arcs(arc(0, 0)), 512), api.ErrGap}, {halved(1000), append(evenChain(4), arc(half, half)), api.ErrLarge}, {halved(2500), slices.Repeat(arcs(arc(5, -3)), 513), api.ErrLarge},
		{halved(1000), make([]api.LoopArc, 10000), api.ErrLarge}, {halved(1000), append(evenChain(8), slices.Repeat(arcs(arc(half, half)), 257)...), api.ErrLarge},
	} {
		n, e := loop.CheckArcs(c.loop, c.arcs)
		wantSame(t, "CheckArcs", n, e, 0, c.want)
	}
	for _, c := range wrongArcs() {
		for _, l := range [][]api.LoopArc{arcs(c.arc), append(chain(0, 6, half), c.arc), append(chain(0, 3, 3), c.arc, arc(-1, 0), arc(1, 0))} {
			n, e := loop.CheckArcs(halved(1000), l)
			wantSame(t, "CheckArcs", n, e, 0, c.want)
		}
	}
}

// P8.2: arcs on which a loop rings.
func TestCheckRings(t *testing.T) {
	turned := looped(1200, 0, 0, fullTap, 0, -fullTap/4)
	for _, c := range []struct {
		loop api.Loop
		arc  api.LoopArc
		want api.Errno
	}{
		{halved(2500), arc(0, 0), api.OK}, {halved(2000), arc(0, 0), api.OK}, {halved(1999), arc(0, 0), api.ErrProof}, {halved(1000), arc(0, 0), api.ErrProof}, {halved(2500), arc(half, half), api.ErrProof},
		{looped(2500, 0, -8192), arc(half, half), api.OK}, {looped(2000, 0, -8192), arc(half, half), api.OK}, {looped(1999, 0, -8192), arc(half, half), api.ErrProof}, {looped(2500, 0, -8192), arc(0, 0), api.ErrProof},
		// where values are real at an end there is no side, however small the arc is
		{halved(2500), arc(0, 1), api.ErrProof}, {halved(2500), arc(0, 4), api.ErrProof}, {looped(2500, 0, -8192), arc(half-1, half), api.ErrProof}, {looped(2500, 0, -8192), arc(half-4, half), api.ErrProof},
		// a third tap alone rings at a third of the turn, between 1365 and 1366
		{looped(1100, 0, 0, 0, fullTap), arc(1365, 1366), api.OK}, {looped(1100, 0, 0, 0, fullTap), arc(1364, 1367), api.OK}, {looped(1100, 0, 0, 0, fullTap), arc(1366, 1366), api.ErrProof},
		{looped(1100, 0, 0, 0, fullTap), arc(1366, 1368), api.ErrProof}, {looped(1100, 0, 0, 0, fullTap), arc(1362, 1365), api.ErrProof}, {looped(1000, 0, 0, 0, fullTap), arc(1365, 1366), api.ErrProof},
		{looped(1100, 0, 0, 0, fullTap), arc(0, half), api.ErrProof}, {looped(1100, 0, 0, 0, fullTap), arc(1200, 1500), api.ErrProof}, {looped(1100, 0, 0, 0, fullTap), arc(1350, 1380), api.OK},
		// an opposite third tap rings at a sixth of the turn, from the other side
		{looped(1100, 0, 0, 0, -fullTap), arc(682, 683), api.OK}, {looped(1100, 0, 0, 0, -fullTap), arc(683, 684), api.ErrProof}, {looped(1100, 0, 0, 0, -fullTap), arc(683, 683), api.ErrProof},
		// there the values cross the real numbers below 0
		{looped(1100, 0, 0, 0, fullTap), arc(682, 683), api.ErrProof}, {turned, arc(half, half), api.ErrProof},
	} {
		wantError(t, "CheckRings", loop.CheckRings(c.loop, c.arc), c.want)
	}
	for _, c := range wrongArcs() {
		wantError(t, "CheckRings", loop.CheckRings(halved(2500), c.arc), c.want)
		b, e := loop.ArcBall(halved(2500), c.arc)
		wantSame(t, "ArcBall", b, e, ball(0, 0, 0), c.want)
	}
}

// P8.2: whether loops ring on any arcs.
func TestRingsOnAnyArc(t *testing.T) {
	r := rand.New(rand.NewSource(823))
	ringing := 0
	for range 4000 {
		l := nearLoop(r)
		m := from(r, 0, half)
		p, _ := loop.Decide(l)
		wider := arc(max(0, p.Rings.From-from(r, -3, 20)), min(half, p.Rings.To+from(r, -3, 20)))
		a := anyOf(r, arc(m, min(half, m+from(r, 0, 12))), arc(0, 0), arc(half, half), anyArc(r), wider, wider)
		if a.From > a.To {
			continue
		}
		want := api.ErrProof
		if slowRings(l, a) {
			want = api.OK
			ringing++
		}
		wantError(t, "CheckRings", loop.CheckRings(l, a), want)
	}
	if ringing < 100 {
		t.Errorf("only %d rings", ringing)
	}
}
