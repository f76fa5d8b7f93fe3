package loop_test

import (
	"math/rand"
	"slices"
	"testing"

	"shoebox/api"
	"shoebox/loop"
)

// wrongLoop is a loop that is not right, and its error.
type wrongLoop struct {
	loop api.Loop
	want api.Errno
}

func wrongLoops() []wrongLoop {
	return []wrongLoop{
		{api.Loop{}, api.ErrShape}, {looped(1000), api.ErrShape}, {api.Loop{Taps: []int{}, Gain: -1}, api.ErrShape},
		{looped(1000, make([]int, 33)...), api.ErrLarge}, {looped(-1, slices.Repeat(list(fullTap+1), 33)...), api.ErrLarge},
		{looped(1000, make([]int, 1000)...), api.ErrLarge},
		{looped(1000, 1), api.ErrZero}, {looped(1000, -1, 0), api.ErrZero}, {looped(1000, fullTap, fullTap+1), api.ErrZero},
		{looped(-1, leastInt), api.ErrZero}, {looped(0, greatestInt, 5), api.ErrZero},
		{looped(1000, 0, fullTap+1), api.ErrRange}, {looped(1000, 0, -fullTap-1), api.ErrRange}, {looped(1000, 0, 0, 0, leastInt), api.ErrRange},
		{looped(1000, 0, greatestInt, 0), api.ErrRange}, {looped(1000, append(make([]int, 31), fullTap+1)...), api.ErrRange},
		{looped(-1, 0), api.ErrRange}, {looped(mostGain+1, 0, 5), api.ErrRange}, {looped(leastInt, 0), api.ErrRange}, {looped(greatestInt, 0), api.ErrRange},
	}
}

// rightLoops is loops at the ends of what is right.
func rightLoops() []api.Loop {
	full := slices.Repeat(list(fullTap), 32)
	full[0] = 0
	opposite := slices.Repeat(list(-fullTap), 32)
	opposite[0] = 0
	return loops(
		looped(0, 0), looped(mostGain, 0), looped(0, 0, fullTap, -fullTap), looped(mostGain, make([]int, 32)...), looped(mostGain, full...), looped(mostGain, opposite...),
		halved(1000), halved(2500), looped(2500, 0, -fullTap/2), looped(1, 0, 1), looped(1, append(make([]int, 31), -1)...),
	)
}

// P8.1: which loops are right, and the first error of others.
func TestCheckLoop(t *testing.T) {
	for _, l := range rightLoops() {
		wantError(t, "CheckLoop", loop.CheckLoop(l), api.OK)
	}
	for _, c := range wrongLoops() {
		wantError(t, "CheckLoop", loop.CheckLoop(c.loop), c.want)
	}
}

// P8.1: sizes of loops.
func TestSizeOf(t *testing.T) {
	for _, c := range []struct {
		loop api.Loop
		want int
	}{
		{halved(1000), 500}, {halved(0), 0}, {halved(1), 1}, {halved(2), 1}, {halved(3), 2}, {looped(mostGain, 0), 0}, {looped(1, 0, 1), 1},
		{looped(1000, 0, -fullTap/2), 500}, {looped(1000, 0, fullTap, -fullTap), 2000}, {looped(1000, 0, 8193), 501}, {looped(1000, 0, 8191), 500},
		{looped(mostGain, 0, -1), 1}, {looped(mostGain, 0, 1, 1), 2}, {rightLoops()[4], 310000}, {rightLoops()[5], 310000},
	} {
		n, e := loop.SizeOf(c.loop)
		wantSame(t, "SizeOf", n, e, c.want, api.OK)
	}
	r := rand.New(rand.NewSource(81))
	for range 1000 {
		l := anyLoop(r)
		n, e := loop.SizeOf(l)
		wantSame(t, "SizeOf", n, e, slowSize(l), api.OK)
	}
}

// P8.1: loops scaled.
func TestScaled(t *testing.T) {
	for _, c := range []struct{ gain, n, want int }{
		{1000, 1500, 1500}, {1000, 0, 0}, {1000, 1000, 1000}, {0, 4000, 0}, {2500, 4000, mostGain}, {mostGain, 1000, mostGain}, {1, 1, 1}, {1, 1000, 1}, {1, 1001, 2},
		{1, 4000, 4}, {999, 999, 999}, {999, 1, 1}, {3, 334, 2}, {3, 333, 1}, {5000, 2000, mostGain}, {mostGain, 0, 0}, {mostGain, 1, 10}, {2501, 3998, 9999}, {4001, 2499, 9999},
	} {
		l, e := loop.Scaled(halved(c.gain), c.n)
		wantLoop(t, "Scaled", l, e, halved(c.want), api.OK)
	}
	for _, c := range []struct{ gain, n int }{
		{1000, -1}, {1000, 4001}, {0, 4001}, {0, -1}, {0, leastInt}, {1000, greatestInt}, {1000, leastInt}, {9000, 1500}, {mostGain, 1001}, {2501, 4000}, {2501, 3999}, {5000, 2001}, {mostGain, 4000},
	} {
		l, e := loop.Scaled(halved(c.gain), c.n)
		wantLoop(t, "Scaled", l, e, api.Loop{}, api.ErrRange)
	}
	r := rand.New(rand.NewSource(811))
	for range 1000 {
		l, n := anyLoop(r), from(r, 0, 4000)
		got, e := loop.Scaled(l, n)
		if want, isRight := slowScaled(l, n); isRight {
			wantLoop(t, "Scaled", got, e, want, api.OK)
		} else {
			wantLoop(t, "Scaled", got, e, api.Loop{}, api.ErrRange)
		}
	}
}
