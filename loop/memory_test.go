package loop_test

import (
	"slices"
	"testing"

	"shoebox/api"
	"shoebox/loop"
)

// R4: no function changes its arguments, or what lies behind their ends.
func TestArgumentsStay(t *testing.T) {
	taps := slices.Grow(list(0, 8192, -3), 3)
	l := looped(1300, taps...)
	proof := slices.Grow(chain(0, 1024, half), 3)
	all := slices.Grow(loops(l, halved(1000)), 3)
	table := [][]api.Loop{slices.Grow(loops(l, l), 3), slices.Grow(loops(l, l), 3)}
	x := lines(slices.Grow(list(500, 400), 3), slices.Grow(list(300, 200), 3))
	w := slices.Grow(list(1, 1), 3)
	for _, f := range loopCalls() {
		f(l, true)
	}
	for _, f := range lineCalls(w) {
		f(x)
	}
	loop.CheckArcs(l, proof)
	loop.Margin(all)
	loop.FirstOpen(all)
	loop.LinesOf(table)
	wantLoop(t, "loop", l, api.OK, looped(1300, 0, 8192, -3), api.OK)
	wantList(t, "arcs", proof, api.OK, chain(0, 1024, half)...)
	wantLoop(t, "loops", all[0], api.OK, l, api.OK)
	wantLoop(t, "loops", all[1], api.OK, halved(1000), api.OK)
	wantLoop(t, "a row of loops", table[1][1], api.OK, l, api.OK)
	wantRows(t, "lines", x.Sizes, api.OK, list(500, 400), list(300, 200))
	wantList(t, "weights", w, api.OK, 1, 1)
	wantList(t, "behind taps", taps[3:6], api.OK, 0, 0, 0)
	wantList(t, "behind arcs", proof[2:5], api.OK, make([]api.LoopArc, 3)...)
	for _, l := range rows(x.Sizes[0], x.Sizes[1], w) {
		wantList(t, "behind a list", l[2:5], api.OK, 0, 0, 0)
	}
}

// R4: results are new memory.
func TestResultsAreNew(t *testing.T) {
	l := looped(1000, slices.Grow(list(0, 8192), 3)...)
	s, e := loop.Scaled(l, 1000)
	l.Taps[1] = 7
	wantLoop(t, "Scaled", s, e, halved(1000), api.OK)
	s.Taps = append(s.Taps, 9)
	s.Taps[1] = 8
	wantList(t, "taps", l.Taps[:3], api.OK, 0, 7, 0)
	for range 2 {
		p, e := loop.Decide(halved(1300))
		wantProof(t, "Decide", p, e, yes(chain(0, 1024, half)...), api.OK)
		p.Arcs[0] = arc(5, 6)
		echoes, e := loop.Echoes(halved(1000), 100, 3)
		wantList(t, "Echoes", echoes, e, 100, 50, 25)
		echoes[0] = 9
		minors, e := loop.Minors(fading())
		wantList(t, "Minors", minors, e, 500, 280000)
		minors[0] = 9
		w, e := loop.WeightsFor(fading())
		wantError(t, "WeightsFor", e, loop.CheckWeights(fading(), w))
		w[0] = -9
	}
}

// R4: the rows of lines share nothing.
func TestRowsAreApart(t *testing.T) {
	x, e := loop.LinesOf(slices.Repeat([][]api.Loop{slices.Repeat(loops(halved(1000)), 3)}, 3))
	want := slices.Repeat(rows(list(500, 500, 500)), 3)
	for i, row := range x.Sizes {
		_ = append(row, 77, 78, 79)
		wantRows(t, "LinesOf", x.Sizes, e, want...)
		row[0] = i
		want[i] = list(i, 500, 500)
		wantRows(t, "LinesOf", x.Sizes, e, want...)
	}
}
