package loop_test

import (
	"math/rand"
	"slices"
	"testing"

	"shoebox/api"
	"shoebox/loop"
)

// P8.4: the first echoes of loops.
func TestEchoes(t *testing.T) {
	for _, c := range []struct {
		loop   api.Loop
		height int
		want   []int
	}{
		{halved(1000), 100, list(100, 50, 25, 13, 7, 4, 2, 1, 1, 1)}, {halved(1000), 0, list(0, 0, 0)}, {halved(1000), 1, list(1, 1, 1, 1)}, {looped(1000, 0), 7, list(7, 0, 0)},
		// halves up, also below 0
		{halved(1000), -1, list(-1, 0, 0)}, {halved(1000), -3, list(-3, -1, 0, 0)}, {halved(1000), -100, list(-100, -50, -25, -12, -6, -3, -1, 0, 0)}, {looped(1000, 0, -8192), 100, list(100, -50, 25, -12, 6, -3, 2, -1, 1, 0)},
		{looped(1000, 0, 0, 0, fullTap), 5, list(5, 0, 0, 5, 0, 0, 5)}, {looped(1000, 0, fullTap, fullTap), 1, list(1, 1, 2, 3, 5, 8, 13, 21)}, {looped(500, 0, fullTap, -fullTap), 16, list(16, 8, -4, -6, -1, 3)},
		{halved(1000), 32767, list(32767, 16384, 8192)}, {halved(1000), -32767, list(-32767, -16383, -8191, -4095)}, {halved(0), 50, list(50, 0)}, {halved(1000), 9, nil}, {halved(1000), 9, list(9)},
		// cut to 10^9 in size, on both sides, and going on with what is cut
		{looped(mostGain, 0, fullTap), 32767, list(32767, 327670, 3276700, 32767000, 327670000, 1000000000, 1000000000)}, {looped(mostGain, 0, -fullTap), 100, list(100, -1000, 10000, -100000, 1000000, -10000000, 100000000, -1000000000, 1000000000, -1000000000)},
		{looped(mostGain, 0, fullTap, -fullTap), 10000, list(10000, 100000, 900000, 8000000, 71000000, 630000000, 1000000000, 1000000000, 0, -1000000000, -1000000000, 0)},
	} {
		l, e := loop.Echoes(c.loop, c.height, len(c.want))
		wantList(t, "Echoes", l, e, c.want...)
	}
	for _, l := range rightLoops() {
		for _, height := range list(32767, -32767, 1) {
			got, e := loop.Echoes(l, height, 200)
			wantList(t, "Echoes", got, e, slowEchoes(l, height, 200)...)
		}
	}
	r := rand.New(rand.NewSource(84))
	for range 400 {
		l, height, count := anyLoop(r), from(r, -32767, 32767), from(r, 0, 60)
		got, e := loop.Echoes(l, height, count)
		wantList(t, "Echoes", got, e, slowEchoes(l, height, count)...)
	}
}

// P8.4: the errors of echoes.
func TestEchoErrors(t *testing.T) {
	for _, c := range [][2]int{{32768, 1}, {-32768, 1}, {leastInt, 1}, {greatestInt, 1}, {100, -1}, {100, 201}, {100, leastInt}, {100, greatestInt}, {32768, 201}} {
		l, e := loop.Echoes(halved(1000), c[0], c[1])
		wantSame(t, "Echoes", len(l), e, 0, api.ErrRange)
	}
	for _, height := range list(32768, -32768, leastInt, greatestInt) {
		for _, gain := range list(0, 1000, 2000) {
			n, e := loop.EchoBound(halved(gain), height)
			wantSame(t, "EchoBound", n, e, 0, api.ErrRange)
		}
	}
	for _, l := range loops(halved(2000), halved(1999), looped(1000, 0, fullTap), looped(1000, 0, 8192, -8192), looped(mostGain, 0, 1639)) {
		n, e := loop.EchoBound(l, 100)
		wantSame(t, "EchoBound", n, e, 0, api.ErrNone)
		n, e = loop.EchoBound(l, 0)
		wantSame(t, "EchoBound", n, e, 0, api.ErrNone)
	}
}

// P8.4: bounds of echoes.
func TestEchoBound(t *testing.T) {
	for _, c := range []struct {
		loop         api.Loop
		height, want int
	}{
		{halved(1000), 100, 101}, {halved(1000), -100, 101}, {halved(1000), 0, 1}, {looped(1000, 0), 32767, 0}, {looped(0, 0, 5), 32767, 0}, {halved(1998), 0, 500}, {halved(1998), 100, 100400}, {halved(1000), 1, 2}, {halved(1998), -32767, 32734733},
		{looped(1000, 0, 16), 1, 0}, {looped(1000, 0, 17), 100, 0}, {looped(1000, 0, 4096), 3, 1}, {looped(1000, 0, -4096), -4, 2}, {looped(1000, 0, 4096, -4096), 4, 5},
	} {
		n, e := loop.EchoBound(c.loop, c.height)
		wantSame(t, "EchoBound", n, e, c.want, api.OK)
	}
}

// P8.9: all echoes but the first one are within the bound, and more echoes begin like fewer.
func TestEchoesWithinBound(t *testing.T) {
	r := rand.New(rand.NewSource(89))
	tested := 0
	for range 1000 {
		l, height, count := nearLoop(r), anyOf(r, 32767, -32767, from(r, -50, 50)), from(r, 1, 200)
		all, _ := loop.Echoes(l, height, 200)
		fewer, e := loop.Echoes(l, height, count)
		wantList(t, "Echoes", fewer, e, all[:count]...)
		n, e := loop.EchoBound(l, height)
		if e != api.OK {
			continue
		}
		tested++
		if slices.Max(all[1:]) > n || slices.Min(all[1:]) < -n {
			t.Errorf("%v of %d: %v are not within %d", l, height, all, n)
		}
	}
	if tested < 50 {
		t.Errorf("only %d were tested", tested)
	}
}
