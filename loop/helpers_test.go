package loop_test

import (
	"math/rand"
	"slices"
	"testing"

	"shoebox/api"
)

const (
	leastInt    = -1 << 63
	greatestInt = 1<<63 - 1
	fullTap     = 16384   // what stands for the tap 1, and the greatest tap
	mostGain    = 10000   // the greatest gain
	unit        = 1048576 // what stands for 1 in values
	half        = 2048    // half of the turn
	mostNumber  = 1000000000000000
	mostWeight  = 1000000000000
)

func list(l ...int) []int { return l }

func rows(l ...[]int) [][]int { return l }

// looped is a loop with a gain and its taps.
func looped(gain int, taps ...int) api.Loop { return api.Loop{Taps: taps, Gain: gain} }

// halved is the loop of the examples.
func halved(gain int) api.Loop { return looped(gain, 0, fullTap/2) }

func loops(l ...api.Loop) []api.Loop { return l }

func ball(x, y, r int) api.LoopBall { return api.LoopBall{X: x, Y: y, R: r} }

func arc(from, to int) api.LoopArc { return api.LoopArc{From: from, To: to} }

func arcs(l ...api.LoopArc) []api.LoopArc { return l }

// chain is arcs from place to place.
func chain(places ...int) []api.LoopArc {
	var l []api.LoopArc
	for i := range places[1:] {
		l = append(l, arc(places[i], places[i+1]))
	}
	return l
}

// evenChain is arcs of the same width all along the half of the turn.
func evenChain(width int) []api.LoopArc {
	var places []int
	for m := 0; m <= half; m += width {
		places = append(places, m)
	}
	return chain(places...)
}

func lines(l ...[]int) api.LoopLines { return api.LoopLines{Sizes: l} }

// fading and growing are the lines of the examples.
func fading() api.LoopLines  { return lines(list(500, 400), list(300, 200)) }
func growing() api.LoopLines { return lines(list(900, 400), list(300, 200)) }

func margin(name string, n int) api.LoopMargin { return api.LoopMargin{Name: name, Margin: n} }

// wantSame tests a result and its error.
func wantSame[T comparable](t *testing.T, name string, got T, e api.Errno, want T, wrong api.Errno) {
	t.Helper()
	if got != want || e != wrong {
		t.Errorf("%s: %v, error %d, want %v, %d", name, got, e, want, wrong)
	}
}

// wantError tests an error alone.
func wantError(t *testing.T, name string, e, wrong api.Errno) {
	t.Helper()
	wantSame(t, name, 0, e, 0, wrong)
}

// wantList tests a list that has no error.
func wantList[T comparable](t *testing.T, name string, got []T, e api.Errno, want ...T) {
	t.Helper()
	if !slices.Equal(got, want) || e != api.OK {
		t.Errorf("%s: %v, error %d, want %v", name, got, e, want)
	}
}

// wantRows tests rows that have no error.
func wantRows(t *testing.T, name string, got [][]int, e api.Errno, want ...[]int) {
	t.Helper()
	if !slices.EqualFunc(got, want, slices.Equal) || e != api.OK {
		t.Errorf("%s: %v, error %d, want %v", name, got, e, want)
	}
}

func sameLoop(a, b api.Loop) bool { return a.Gain == b.Gain && slices.Equal(a.Taps, b.Taps) }

// wantLoop tests a loop and its error.
func wantLoop(t *testing.T, name string, got api.Loop, e api.Errno, want api.Loop, wrong api.Errno) {
	t.Helper()
	if !sameLoop(got, want) || e != wrong {
		t.Errorf("%s: %v, error %d, want %v, %d", name, got, e, want, wrong)
	}
}

func sameProof(a, b api.LoopProof) bool {
	return a.Answer == b.Answer && a.Rings == b.Rings && slices.Equal(a.Arcs, b.Arcs)
}

// wantProof tests what is found, and its error.
func wantProof(t *testing.T, name string, got api.LoopProof, e api.Errno, want api.LoopProof, wrong api.Errno) {
	t.Helper()
	if !sameProof(got, want) || e != wrong {
		t.Errorf("%s: %v, error %d, want %v, %d", name, got, e, want, wrong)
	}
}

// anyOf is one of some values.
func anyOf[T any](r *rand.Rand, l ...T) T { return l[r.Intn(len(l))] }

// from is a number of a range.
func from(r *rand.Rand, least, greatest int) int { return least + r.Intn(greatest-least+1) }

// anyTaps is often a few taps that are not 0, or many of the same size.
func anyTaps(r *rand.Rand) []int {
	taps := make([]int, anyOf(r, 1, 2, 3, 32, from(r, 1, 32)))
	most := anyOf(r, 1, 100, fullTap, from(r, 1, fullTap))
	isRare := r.Intn(2) == 0
	for k := 1; k < len(taps); k++ {
		if isRare && r.Intn(4) > 0 {
			continue
		}
		taps[k] = anyOf(r, most, -most, from(r, -most, most), from(r, -most, most))
	}
	return taps
}

func anyLoop(r *rand.Rand) api.Loop {
	return looped(anyOf(r, 0, 1, 1000, mostGain, from(r, 0, 2000), from(r, 0, mostGain)), anyTaps(r)...)
}

// nearLoop is a loop that is often near to ringing.
func nearLoop(r *rand.Rand) api.Loop {
	l := looped(1000, anyTaps(r)...)
	sum := 0
	for _, tap := range l.Taps {
		sum += max(tap, -tap)
	}
	if sum > 0 {
		l.Gain = min(mostGain, fullTap*anyOf(r, from(r, 850, 1800), from(r, 1000, 5000))/sum)
	}
	return l
}

func anyArc(r *rand.Rand) api.LoopArc {
	a, b := from(r, 0, half), anyOf(r, 0, half, from(r, 0, half))
	if r.Intn(3) == 0 {
		b = min(half, a+r.Intn(20))
	}
	return arc(min(a, b), max(a, b))
}

// anyLines is often lines that nearly fade, or nearly do not.
func anyLines(r *rand.Rand) api.LoopLines {
	count := from(r, 1, 4)
	most := anyOf(r, 2000, 1100/count, 1400/count, 2000/count, from(r, 1, 2000))
	var x api.LoopLines
	for range count {
		var row []int
		for range count {
			row = append(row, anyOf(r, 0, most, from(r, 0, most), from(r, 0, most), from(r, 0, most)))
		}
		x.Sizes = append(x.Sizes, row)
	}
	return x
}
