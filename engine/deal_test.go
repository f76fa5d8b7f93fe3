package engine_test

import (
	"math/rand"
	"slices"
	"testing"

	"shoebox/api"
	"shoebox/engine"
)

// P9.5: deals, lists that are none, and the order of errors.
func TestDeals(t *testing.T) {
	g := plain()
	for _, c := range []struct {
		deal [][]int
		n    int
		want api.Errno
	}{
		{rows(list(3, 1), list(2, 0)), 2, api.OK},
		{rows(list(0, 1, 2, 3)), 1, api.OK},
		{rows(list(3), list(2), list(1), list(0)), 4, api.OK},
		{rows(nil, list(0, 3), nil, nil, list(1), nil, list(2), nil), 3, api.OK},
		{nil, 0, api.ErrShape},
		{rows(), 0, api.ErrShape},
		{rows(list(0, 1, 2, 3), nil, nil, nil, nil, nil, nil, nil, nil), 0, api.ErrLarge},
		{slices.Repeat(rows(list(9)), 9), 0, api.ErrLarge},
		{rows(list(0, 4)), 0, api.ErrMissing},
		{rows(list(-1, 0, 0)), 0, api.ErrMissing},
		{rows(list(0, 1), list(2, greatestInt, 2)), 0, api.ErrMissing},
		{rows(list(0, 1, 2, 3), list(leastInt)), 0, api.ErrMissing},
		{rows(list(0, 0, 9)), 0, api.ErrDouble},
		{rows(list(0, 1), list(2, 1)), 0, api.ErrDouble},
		{rows(list(0, 1, 2, 3), list(3), list(9)), 0, api.ErrDouble},
		{rows(list(0, 1), list(2)), 0, api.ErrGap},
		{rows(list(1, 2, 3)), 0, api.ErrGap},
		{rows(nil), 0, api.ErrGap},
	} {
		n, e := engine.CheckDeal(g, c.deal)
		wantSame(t, "CheckDeal of "+textOf(c.deal), n, e, c.n, c.want)
		if c.want != api.OK {
			// ahead of what is wrong with the tape
			out, cuts, e := engine.Dealt(g, c.deal, api.EngineTape{})
			wantWrong(t, "Dealt", played{out, cuts}, e, c.want)
		}
	}
	n, e := engine.CheckDeal(graphOf(), rows(nil, nil))
	wantSame(t, "nobody works", n, e, 0, api.OK)
	n, e = engine.CheckDeal(graphOf(), nil)
	wantWrong(t, "no list for no unit", n, e, api.ErrShape)
}

// P9.5, P9.7: whatever deal there is, the output is the same to the bit, and so is what was cut.
func TestDealt(t *testing.T) {
	in := tape(blocks(block(101), constant(7, 0)))
	want, _, _ := engine.Run(plain(), in, nil)
	for _, deal := range [][][]int{rows(list(3, 1), list(2, 0)), rows(list(3, 2, 1, 0)), rows(list(3), list(2), list(1), list(0), nil)} {
		out, cuts, e := engine.Dealt(plain(), deal, api.EngineTape{In: in})
		wantSame(t, "Dealt", played{out, cuts}, e, played{want, 0}, api.OK)
	}
	r := rand.New(rand.NewSource(9))
	cut := 0
	for range 150 {
		g := anyGraph(r, 24)
		x := api.EngineTape{In: anyTape(r, g, anyOf(r, 0, 1, 3, 16)), Faults: anyFaults(r, g, 16)}
		out, cuts, e := engine.Run(g, x.In, x.Faults)
		want := textOf(played{out, cuts})
		cut += cuts
		for range 4 {
			deal := anyDeal(r, g)
			out, cuts, wrong := engine.Dealt(g, deal, x)
			if textOf(played{out, cuts}) != want || wrong != api.OK || e != api.OK {
				t.Fatalf("%v of %+v: %d and %d cuts, errors %d and %d", deal, g, cut, cuts, wrong, e)
			}
		}
	}
	if cut < 1000 {
		t.Errorf("only %d cuts", cut)
	}
}
