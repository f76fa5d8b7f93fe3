package loop_test

import (
	"math/rand"
	"slices"
	"testing"

	"shoebox/api"
	"shoebox/loop"
)

// wrongLine is lines that are not right, and their error.
type wrongLine struct {
	lines api.LoopLines
	want  api.Errno
}

func wrongLines() []wrongLine {
	return []wrongLine{
		{api.LoopLines{}, api.ErrShape}, {lines(), api.ErrShape}, {lines(nil, nil, nil, nil, nil), api.ErrLarge}, {lines(slices.Repeat(rows(list(-1, 2, 3, 4, 5)), 5)...), api.ErrLarge},
		{lines(nil), api.ErrShape}, {lines(list()), api.ErrShape}, {lines(list(1, 2)), api.ErrShape}, {lines(list(1, 2), list(3)), api.ErrShape}, {lines(list(1, 2), list(3, 4, 5)), api.ErrShape}, {lines(list(1), list(3, 4)), api.ErrShape},
		{lines(list(1, 2), list(3, 4), list(5, 6)), api.ErrShape}, {lines(list(1, 2, 3), list(1, -2, 3), list(1)), api.ErrRange}, {lines(list(1, 2, 3), list(1, 2), list(1, -2, 3)), api.ErrShape}, {lines(list(-1), list(1, 2)), api.ErrShape},
		{lines(list(-1)), api.ErrRange}, {lines(list(2001)), api.ErrRange}, {lines(list(leastInt)), api.ErrRange}, {lines(list(greatestInt)), api.ErrRange}, {lines(list(1, 2), list(3, 2001)), api.ErrRange}, {lines(list(1, -1), list(3)), api.ErrRange},
		{lines(list(0, 0, 0, 0), list(0, 0, 0, 0), list(0, 0, 0, 0), list(0, 0, 0, -1)), api.ErrRange}, {lines(list(0, 0, 0, 0), list(0, 0, 0, 0), list(0, 0, 0, 0), list(0, 0, 2001, 0)), api.ErrRange},
	}
}

// lineCalls is the functions with lines; each tells whether its result is nothing.
func lineCalls(w []int) map[string]func(x api.LoopLines) (bool, api.Errno) {
	return map[string]func(x api.LoopLines) (bool, api.Errno){
		"CheckLines":   func(x api.LoopLines) (bool, api.Errno) { return true, loop.CheckLines(x) },
		"CheckWeights": func(x api.LoopLines) (bool, api.Errno) { return true, loop.CheckWeights(x, w) },
		"Minors": func(x api.LoopLines) (bool, api.Errno) {
			l, e := loop.Minors(x)
			return len(l) == 0, e
		},
		"Fades": func(x api.LoopLines) (bool, api.Errno) {
			is, e := loop.Fades(x)
			return !is, e
		},
		"WeightsFor": func(x api.LoopLines) (bool, api.Errno) {
			l, e := loop.WeightsFor(x)
			return len(l) == 0, e
		},
	}
}

// P8.5: the errors of lines come first, and with them nothing else.
func TestLinesErrors(t *testing.T) {
	for _, w := range rows(nil, list(0), list(1, 1), list(1, 1, 1)) {
		for name, f := range lineCalls(w) {
			for _, c := range wrongLines() {
				isNothing, e := f(c.lines)
				wantSame(t, name, isNothing, e, true, c.want)
			}
		}
	}
	for _, x := range []api.LoopLines{fading(), growing(), lines(list(0)), lines(list(2000)), lines(slices.Repeat(rows(slices.Repeat(list(2000), 4)), 4)...)} {
		wantError(t, "CheckLines", loop.CheckLines(x), api.OK)
	}
}

// P8.5: minors, and whether lines fade.
func TestMinors(t *testing.T) {
	most := lines(slices.Repeat(rows(slices.Repeat(list(2000), 4)), 4)...)
	for _, c := range []struct {
		lines api.LoopLines
		want  []int
		fade  bool
	}{
		{fading(), list(500, 280000), true}, {growing(), list(100, -40000), false}, {lines(list(0)), list(1000), true}, {lines(list(1000)), list(0), false}, {lines(list(2000)), list(-1000), false}, {lines(list(999)), list(1), true},
		{lines(list(1001, 0), list(0, 1001)), list(-1, 1), false}, {lines(list(0, 1000), list(1000, 0)), list(1000, 0), false}, {lines(list(0, 2000), list(499, 0)), list(1000, 2000), true}, {lines(list(0, 2000), list(500, 0)), list(1000, 0), false},
		{lines(list(0, 0, 0), list(0, 0, 0), list(0, 0, 0)), list(1000, 1000000, 1000000000), true}, {lines(list(0, 2000, 0), list(0, 0, 2000), list(0, 0, 0)), list(1000, 1000000, 1000000000), true},
		{lines(list(0, 2000, 0), list(0, 0, 2000), list(250, 0, 0)), list(1000, 1000000, 0), false}, {lines(list(0, 0, 2000), list(2000, 0, 0), list(0, 249, 0)), list(1000, 1000000, 4000000), true},
		{lines(list(100, 200, 300), list(300, 100, 200), list(200, 300, 100)), list(900, 750000, 729000000-8000000-27000000-3*54000000), true},
		{most, list(-1000, -3000000, -5000000000, -7000000000000), false}, {lines(list(0, 2000, 0, 0), list(0, 0, 2000, 0), list(0, 0, 0, 2000), list(124, 0, 0, 0)), list(1000, 1000000, 1000000000, 8000000000), true},
		{lines(list(0, 2000, 0, 0), list(0, 0, 2000, 0), list(0, 0, 0, 2000), list(125, 0, 0, 0)), list(1000, 1000000, 1000000000, 0), false}, {lines(list(1000, 0), list(0, 0)), list(0, 0), false}, {lines(list(500, 500), list(500, 500)), list(500, 0), false},
	} {
		l, e := loop.Minors(c.lines)
		wantList(t, "Minors", l, e, c.want...)
		is, e := loop.Fades(c.lines)
		wantSame(t, "Fades", is, e, c.fade, api.OK)
	}
	r := rand.New(rand.NewSource(85))
	for range 3000 {
		x := anyLines(r)
		want := slowMinors(x)
		l, e := loop.Minors(x)
		wantList(t, "Minors", l, e, want...)
		is, e := loop.Fades(x)
		wantSame(t, "Fades", is, e, slices.Min(want) > 0, api.OK)
	}
}

// P8.5: weights that are accepted, and others.
func TestCheckWeights(t *testing.T) {
	for _, c := range []struct {
		lines api.LoopLines
		w     []int
		want  api.Errno
	}{
		{fading(), list(1, 1), api.OK}, {fading(), list(mostWeight, mostWeight), api.OK}, {fading(), list(4, 5), api.ErrProof}, {fading(), list(5, 5), api.OK}, {fading(), list(400, 499), api.OK}, {fading(), list(8, 3), api.ErrProof}, {fading(), list(8, 4), api.OK}, {fading(), list(800, 301), api.OK}, {fading(), list(800, 300), api.ErrProof},
		{fading(), nil, api.ErrShape}, {fading(), list(1), api.ErrShape}, {fading(), list(1, 1, 1), api.ErrShape}, {fading(), list(0), api.ErrShape}, {fading(), list(0, 1), api.ErrRange}, {fading(), list(1, 0), api.ErrRange}, {fading(), list(-1, 1), api.ErrRange},
		{fading(), list(mostWeight+1, mostWeight), api.ErrRange}, {fading(), list(1, mostWeight+1), api.ErrRange}, {fading(), list(leastInt, 1), api.ErrRange}, {fading(), list(1, greatestInt), api.ErrRange}, {fading(), list(1, 0, 1), api.ErrShape},
		{growing(), list(1, 1), api.ErrProof}, {growing(), list(0, 1), api.ErrRange}, {growing(), list(1000, 1), api.ErrProof}, {growing(), nil, api.ErrShape}, {lines(list(999)), list(1), api.OK}, {lines(list(1000)), list(1), api.ErrProof}, {lines(list(1000)), list(mostWeight), api.ErrProof},
		{lines(list(999)), list(mostWeight), api.OK}, {lines(list(0, 2000), list(499, 0)), list(1, 1), api.ErrProof}, {lines(list(0, 2000), list(499, 0)), list(2001, 1000), api.OK}, {lines(list(0, 1), list(2000, 0)), list(1, mostWeight), api.ErrProof}, {lines(list(0, 0), list(2000, 0)), list(1, mostWeight), api.OK},
		{lines(list(0, 0), list(2000, 0)), list(mostWeight, 1), api.ErrProof}, {lines(list(500, 499), list(499, 500)), list(1, 1), api.OK}, {lines(list(500, 499), list(500, 500)), list(1, 1), api.ErrProof}, {lines(list(2000, 0), list(0, 0)), list(1, 1), api.ErrProof},
	} {
		wantError(t, "CheckWeights", loop.CheckWeights(c.lines, c.w), c.want)
	}
	r := rand.New(rand.NewSource(851))
	proved := 0
	for range 5000 {
		x := anyLines(r)
		w := make([]int, len(x.Sizes))
		most := anyOf(r, 2, 100, mostWeight)
		for i := range w {
			w[i] = anyOf(r, 1, most, from(r, 1, most))
		}
		want := api.ErrProof
		if slowProves(x, w) {
			want = api.OK
			proved++
		}
		wantError(t, "CheckWeights", loop.CheckWeights(x, w), want)
	}
	if proved < 500 {
		t.Errorf("only %d proved", proved)
	}
}

// P8.5, P8.10: weights are there just where all minors are above 0.
func TestWeightsFor(t *testing.T) {
	check := func(x api.LoopLines) bool {
		t.Helper()
		minors := slowMinors(x)
		w, e := loop.WeightsFor(x)
		if slices.Min(minors) <= 0 {
			wantSame(t, "WeightsFor", len(w), e, 0, api.ErrUnstable)
			return false
		}
		if e != api.OK || loop.CheckWeights(x, w) != api.OK || !slowProves(x, w) {
			t.Errorf("WeightsFor %v: %v, error %d", x, w, e)
		}
		return true
	}
	for _, x := range []api.LoopLines{
		fading(), growing(), lines(list(0)), lines(list(999)), lines(list(1000)), lines(list(1001, 0), list(0, 1001)), lines(list(0, 2000), list(499, 0)), lines(list(0, 2000), list(500, 0)),
		// cofactors that are as great as they may be, or as small
		lines(list(0, 2000, 2000, 2000), list(0, 0, 2000, 2000), list(0, 0, 0, 2000), list(0, 0, 0, 0)), lines(list(0, 0, 0, 0), list(2000, 0, 0, 0), list(2000, 2000, 0, 0), list(2000, 2000, 2000, 0)),
		lines(list(0, 2000, 0, 0), list(0, 0, 2000, 0), list(0, 0, 0, 2000), list(124, 0, 0, 0)), lines(list(999, 0, 0, 0), list(0, 999, 0, 0), list(0, 0, 999, 0), list(0, 0, 0, 999)),
		lines(list(999, 2000, 2000, 2000), list(0, 999, 2000, 2000), list(0, 0, 999, 2000), list(0, 0, 0, 999)), lines(list(999, 2000, 0), list(0, 999, 0), list(1, 2, 999)),
	} {
		check(x)
	}
	r := rand.New(rand.NewSource(852))
	fade := 0
	for range 5000 {
		if check(anyLines(r)) {
			fade++
		}
	}
	if fade < 500 || fade > 4500 {
		t.Errorf("%d fade", fade)
	}
}

// P8.10: no weights are accepted where a minor is not above 0.
func TestNoWeights(t *testing.T) {
	r := rand.New(rand.NewSource(810))
	accepted := 0
	for range 20000 {
		x := anyLines(r)
		w := make([]int, len(x.Sizes))
		for i := range w {
			w[i] = from(r, 1, anyOf(r, 3, 50))
		}
		if loop.CheckWeights(x, w) != api.OK {
			continue
		}
		accepted++
		is, e := loop.Fades(x)
		wantSame(t, "Fades", is, e, true, api.OK)
	}
	if accepted < 500 {
		t.Errorf("only %d were accepted", accepted)
	}
}

// P8.10: lines with lesser sizes fade if those with greater ones do; weights of 1 are accepted if rows are small.
func TestLesserLines(t *testing.T) {
	r := rand.New(rand.NewSource(8101))
	for range 3000 {
		x := anyLines(r)
		isSmall := true
		var lesser api.LoopLines
		for _, row := range x.Sizes {
			var l []int
			sum := 0
			for _, n := range row {
				l = append(l, anyOf(r, n, from(r, 0, n)))
				sum += n
			}
			lesser.Sizes = append(lesser.Sizes, l)
			isSmall = isSmall && sum < 1000
		}
		greater, _ := loop.Fades(x)
		is, e := loop.Fades(lesser)
		wantSame(t, "Fades", is || !greater, e, true, api.OK)
		want := api.ErrProof
		if isSmall {
			want = api.OK
			wantSame(t, "Fades", greater, api.OK, true, api.OK)
		}
		wantError(t, "CheckWeights", loop.CheckWeights(x, slices.Repeat(list(1), len(x.Sizes))), want)
	}
}

// P8.5: lines of loops.
func TestLinesOf(t *testing.T) {
	full := looped(2000, 0, fullTap)
	for _, c := range []struct {
		loops [][]api.Loop
		want  [][]int
	}{
		{[][]api.Loop{loops(halved(1000))}, rows(list(500))}, {[][]api.Loop{loops(full)}, rows(list(2000))}, {[][]api.Loop{loops(looped(mostGain, 0))}, rows(list(0))},
		{[][]api.Loop{loops(halved(1000), halved(800)), loops(halved(600), halved(400))}, rows(list(500, 400), list(300, 200))}, {slices.Repeat([][]api.Loop{slices.Repeat(loops(halved(1)), 4)}, 4), slices.Repeat(rows(list(1, 1, 1, 1)), 4)},
	} {
		x, e := loop.LinesOf(c.loops)
		wantRows(t, "LinesOf", x.Sizes, e, c.want...)
	}
	quiet, great := halved(1000), looped(2001, 0, fullTap)
	wrong := func(l [][]api.Loop, want api.Errno) {
		t.Helper()
		x, e := loop.LinesOf(l)
		wantSame(t, "LinesOf", len(x.Sizes), e, 0, want)
	}
	wrong(nil, api.ErrShape)
	wrong([][]api.Loop{}, api.ErrShape)
	wrong(slices.Repeat([][]api.Loop{slices.Repeat(loops(quiet), 5)}, 5), api.ErrLarge)
	wrong(make([][]api.Loop, 5), api.ErrLarge)
	wrong([][]api.Loop{nil}, api.ErrShape)
	wrong([][]api.Loop{loops(quiet, quiet)}, api.ErrShape)
	wrong([][]api.Loop{loops(quiet, quiet), loops(quiet)}, api.ErrShape)
	wrong([][]api.Loop{loops(great), loops(quiet, quiet)}, api.ErrShape)
	wrong([][]api.Loop{loops(quiet, quiet), loops(quiet, quiet, quiet)}, api.ErrShape)
	wrong([][]api.Loop{loops(great)}, api.ErrRange)
	wrong([][]api.Loop{loops(halved(5000))}, api.ErrRange)
	wrong([][]api.Loop{loops(quiet, great), loops(quiet)}, api.ErrRange)
	wrong([][]api.Loop{loops(quiet, quiet), loops(quiet, great)}, api.ErrRange)
	for _, c := range wrongLoops() {
		wrong([][]api.Loop{loops(c.loop)}, c.want)
		wrong([][]api.Loop{loops(quiet, c.loop), nil}, c.want)
		wrong([][]api.Loop{loops(quiet, quiet), loops(c.loop, great)}, c.want)
		wrong([][]api.Loop{loops(quiet, great), loops(c.loop, quiet)}, api.ErrRange)
		wrong([][]api.Loop{loops(quiet, quiet), loops(c.loop)}, api.ErrShape)
	}
}
