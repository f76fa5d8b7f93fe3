package engine_test

import (
	"math/rand"
	"slices"
	"testing"

	"shoebox/api"
	"shoebox/engine"
)

// compensated is the graph of the examples, compensated.
func compensated() api.EngineGraph {
	g := plain()
	g.Units[2].Align = list(3, 0)
	return g
}

// P9.2: the latencies of the examples, and of each kind of unit.
func TestLatencies(t *testing.T) {
	chain := graphOf(input(), delay(0, 5, 64), filtered(1, 2, half()), sum(taken{2, 64, 0}), output(3, 1), output(4, 0))
	for _, c := range []struct {
		name string
		g    api.EngineGraph
		want []int
	}{
		{"nothing", graphOf(), nil},
		{"the example, compensated", compensated(), list(0, 3, 3, 3)},
		{"a chain", chain, list(0, 69, 71, 135, 136, 136)},
		{"a turned one", graphOf(output(1, 1), delay(2, 0, 4), input()), list(5, 4, 0)},
		{"inputs", graphOf(input(), input(), sum(taken{0, 0, 1}, taken{1, 0, 1})), list(0, 0, 0)},
		// who stands in need not have the latency
		{"a stand-in", graphOf(input(), delay(0, 0, 9), behind(1, output(0, 0))), list(0, 9, 0)},
	} {
		l, e := engine.Latencies(c.g)
		wantSame(t, "Latencies of "+c.name, l, e, c.want, api.OK)
		wantErrno(t, "CheckLatencies of "+c.name, engine.CheckLatencies(c.g, c.want), api.OK)
		w, e := engine.Unequal(c.g)
		wantWrong(t, "Unequal of "+c.name, w, e, api.ErrNone)
		g, e := engine.Compensated(c.g)
		wantSame(t, "Compensated of "+c.name, g, e, c.g, api.OK)
	}
	for _, g := range unequals() {
		l, e := engine.Latencies(g)
		wantWrong(t, "Latencies", l, e, api.ErrClash)
		w, e := engine.Unequal(g)
		wantErrno(t, "Unequal", e, api.OK)
		wantDifferent(t, g, w)
	}
}

// unequals is graphs whose latencies are not equal.
func unequals() []api.EngineGraph {
	two := []taken{{0, 0, 0}, {1, 0, 0}}
	return []api.EngineGraph{
		plain(),
		graphOf(input(), delay(0, 0, 1), sum(two...)),
		graphOf(input(), input(), sum(taken{0, 0, 1}, taken{1, 1, 1})),
		graphOf(input(), input(), sum(taken{0, 0, 1}, taken{1, 0, 1}, taken{4, 0, 1}), output(2, 0), delay(0, 0, 2)),
		graphOf(output(1, 0), output(2, 0), sum(taken{3, 5, 1}, taken{4, 6, 1}), input(), input()),
		// both sums have ways that differ, the second one through the first one
		graphOf(input(), delay(0, 0, 1), sum(two...), sum(taken{2, 0, 1}, taken{0, 7, 1})),
	}
}

// wantDifferent tests that two ways differ, after the definition.
func wantDifferent(t *testing.T, g api.EngineGraph, w [2][]int) {
	t.Helper()
	lengths, e := engine.CheckUnequal(g, w)
	wantSame(t, "CheckUnequal", lengths, e, [2]int{lengthOf(g, w[0]), lengthOf(g, w[1])}, api.OK)
	last := w[0][len(w[0])-1]
	if lengths[0] == lengths[1] || last != w[1][len(w[1])-1] {
		t.Errorf("%v do not differ: %v", w, lengths)
	}
	for _, way := range w {
		if !slices.ContainsFunc(waysTo(g, last), func(l []int) bool { return slices.Equal(l, way) }) {
			t.Errorf("%v is no way", way)
		}
	}
}

// P9.2: what are not the latencies.
func TestWrongLatencies(t *testing.T) {
	g := compensated()
	for _, c := range []struct {
		l    []int
		want api.Errno
	}{
		{nil, api.ErrShape},
		{list(0, 3, 3), api.ErrShape},
		{list(0, 3, 3, 3, 3), api.ErrShape},
		{list(0, 3, 3, 4), api.ErrProof},
		{list(1, 4, 4, 4), api.ErrProof},
		{list(1, 3, 3, 3), api.ErrProof},
		{list(0, 2, 3, 3), api.ErrProof},
		{list(0, 3, 0, 0), api.ErrProof},
		{list(0, 3, 6, 6), api.ErrProof},
		{list(0, 0, 0, 0), api.ErrProof},
		{list(-3, 0, 0, 0), api.ErrProof},
		{list(leastInt, leastInt+3, leastInt+3, leastInt+3), api.ErrProof},
		{list(greatestInt, leastInt+2, leastInt+2, leastInt+2), api.ErrProof},
	} {
		wantErrno(t, "CheckLatencies of "+textOf(c.l), engine.CheckLatencies(g, c.l), c.want)
	}
	for _, l := range rows(list(0, 3, 3, 3), list(0, 3, 0, 0), list(0, 0, 0, 0)) {
		wantErrno(t, "CheckLatencies of unequal ones", engine.CheckLatencies(plain(), l), api.ErrProof)
	}
	wantErrno(t, "shape of unequal ones", engine.CheckLatencies(plain(), list(0)), api.ErrShape)
}

// P9.2: lists that are no ways that differ, and the order of errors.
func TestWrongWays(t *testing.T) {
	g := plain()
	short, middle := list(0, 2), list(0, 1, 2)
	for _, c := range []struct {
		a, b []int
		want api.Errno
	}{
		{nil, middle, api.ErrShape},
		{short, nil, api.ErrShape},
		{list(0, 1, 2, 3, 3), nil, api.ErrShape},
		{list(9, 9, 9, 9, 9), middle, api.ErrShape},
		{list(9), nil, api.ErrMissing},
		{list(4), middle, api.ErrMissing},
		{list(-1), middle, api.ErrMissing},
		{list(leastInt, 1), middle, api.ErrMissing},
		{list(0, greatestInt), middle, api.ErrMissing},
		{short, list(0, 1, 9), api.ErrMissing},
		{list(1, 9), middle, api.ErrKind},
		{list(3, 0), middle, api.ErrKind},
		{list(2), list(2), api.ErrKind},
		{list(0, 3, 9), middle, api.ErrOpen},
		{list(0, 2, 1), middle, api.ErrOpen},
		{list(0, 0), list(0), api.ErrOpen},
		{short, list(0, 1, 3), api.ErrOpen},
		{short, list(0, 1), api.ErrClash},
		{list(0, 2, 3), middle, api.ErrClash},
		{short, list(0), api.ErrClash},
		{short, short, api.ErrProof},
		{list(0), list(0), api.ErrProof},
		{list(0, 1, 2, 3), list(0, 1, 2, 3), api.ErrProof},
	} {
		lengths, e := engine.CheckUnequal(g, [2][]int{c.a, c.b})
		wantWrong(t, "CheckUnequal of "+textOf(c.a)+textOf(c.b), lengths, e, c.want)
	}
	for _, w := range [][2][]int{{short, middle}, {middle, short}, {list(0, 1, 2, 3), list(0, 2, 3)}} {
		wantDifferent(t, g, w)
	}
	lengths, e := engine.CheckUnequal(compensated(), [2][]int{short, middle})
	wantWrong(t, "CheckUnequal, compensated", lengths, e, api.ErrProof)
	// an input may be taken in the middle of no way
	lengths, e = engine.CheckUnequal(graphOf(input(), input()), [2][]int{list(0, 1), list(1)})
	wantWrong(t, "CheckUnequal of two inputs", lengths, e, api.ErrOpen)
	delayed := graphOf(input(), delay(0, 5, 7), sum(taken{1, 9, 1}, taken{0, 64, 1}))
	lengths, e = engine.CheckUnequal(delayed, [2][]int{list(0, 1, 2), list(0, 2)})
	wantSame(t, "CheckUnequal of all lengths", lengths, e, [2]int{21, 64}, api.OK)
}

// P9.2: compensated graphs.
func TestCompensated(t *testing.T) {
	g, e := engine.Compensated(plain())
	wantSame(t, "Compensated", g, e, compensated(), api.OK)

	// only units that take from several ones wait, and none of those is early by more than 64
	edge := func(late int) api.EngineGraph {
		return graphOf(input(), delay(0, 0, late), sum(taken{0, 1, 1}, taken{1, 0, 1}), behind(1, output(2, 5)))
	}
	want := edge(64)
	want.Units[2].Align = list(64, 0)
	g, e = engine.Compensated(edge(64))
	wantSame(t, "Compensated to the edge", g, e, want, api.OK)
	tooLate := graphOf(input(), delay(0, 1, 64), sum(taken{0, 0, 1}, taken{1, 0, 1}))
	g, e = engine.Compensated(tooLate)
	wantWrong(t, "Compensated beyond the edge", g, e, api.ErrLarge)
	tooLate.Units[2].Align[0] = 1
	g, e = engine.Compensated(tooLate)
	wantWrong(t, "Compensated beyond the edge, aligned", g, e, api.ErrLarge)

	// the Aligns ahead count with what they were made, and delays too
	twice := graphOf(
		sum(taken{1, 2, 1}, taken{3, 0, 2}, taken{2, 1, 3}), sum(taken{2, 3, 1}, taken{3, 0, 2}), input(), delay(4, 1, 2), delay(2, 3, 4),
	)
	want = graphOf(
		sum(taken{1, 2, 1}, taken{3, 2, 2}, taken{2, 12, 3}), sum(taken{2, 10, 1}, taken{3, 0, 2}), input(), delay(4, 1, 2), delay(2, 3, 4),
	)
	g, e = engine.Compensated(twice)
	wantSame(t, "Compensated twice", g, e, want, api.OK)
}

// P9.2, P9.8: latencies are equal just if no two ways differ, and those of all ways.
func TestLatenciesSlowly(t *testing.T) {
	r := rand.New(rand.NewSource(3))
	equal, large := 0, 0
	for range 1000 {
		g := anyGraph(r, 9)
		want, isEqual := slowLatencies(g)
		l, e := engine.Latencies(g)
		w, without := engine.Unequal(g)
		if isEqual {
			equal++
			wantSame(t, "Latencies", l, e, want, api.OK)
			wantWrong(t, "Unequal", w, without, api.ErrNone)
			wantErrno(t, "CheckLatencies", engine.CheckLatencies(g, l), api.OK)
			l[r.Intn(len(l))] += anyOf(r, 1, -1)
			wantErrno(t, "CheckLatencies", engine.CheckLatencies(g, l), api.ErrProof)
		} else {
			wantWrong(t, "Latencies", l, e, api.ErrClash)
			wantErrno(t, "Unequal", without, api.OK)
			wantDifferent(t, g, w)
		}
		if !wantCompensated(t, g) {
			large++
		}
	}
	if equal < 100 || equal > 900 || large < 100 || large > 900 {
		t.Errorf("%d of 1000 equal, %d too large", equal, large)
	}
}

// wantCompensated tests the compensated graph of a graph; false if there is none.
func wantCompensated(t *testing.T, g api.EngineGraph) bool {
	t.Helper()
	want := graphOf(g.Units...)
	isLarge := false
	for unit, align := range slowAligns(g) {
		want.Units[unit].Align = align
		isLarge = isLarge || slices.ContainsFunc(align, func(n int) bool { return n > mostDelay })
	}
	c, e := engine.Compensated(g)
	if isLarge {
		wantWrong(t, "Compensated", c, e, api.ErrLarge)
		return false
	}
	wantSame(t, "Compensated", c, e, want, api.OK)
	_, e = engine.Latencies(c)
	wantErrno(t, "Latencies, compensated", e, api.OK)
	again, e := engine.Compensated(c)
	wantSame(t, "Compensated again", again, e, c, api.OK)
	return true
}
