package engine_test

import (
	"math"
	"math/rand"
	"slices"
	"testing"

	"shoebox/api"
	"shoebox/engine"
)

// roomy is a graph of which each list has room behind its end.
func roomy() api.EngineGraph {
	g := graphOf(
		input(), delay(0, 1, 3), behind(0, sum(taken{0, 2, 500}, taken{1, 0, 1000})), filtered(2, 0, half(), double()), output(3, 0),
	)
	for i := range g.Units {
		u := &g.Units[i]
		u.From, u.Align, u.Gains = slices.Grow(u.From, 3), slices.Grow(u.Align, 3), slices.Grow(u.Gains, 3)
		u.Cascade = slices.Grow(u.Cascade, 3)
	}
	g.Units = slices.Grow(g.Units, 3)
	return g
}

// behindEnds is all that lies behind the ends of the lists of a graph.
func behindEnds(g api.EngineGraph) any {
	var l []any
	for _, u := range g.Units {
		n := len(u.From)
		l = append(l, u.From[n:n+3], u.Align[n:n+3], u.Gains[len(u.Gains):len(u.Gains)+3], u.Cascade[len(u.Cascade):len(u.Cascade)+3])
	}
	return append(l, g.Units[len(g.Units):len(g.Units)+3])
}

// R4: no function changes its arguments, or what lies behind their ends.
func TestArgumentsStay(t *testing.T) {
	g := roomy()
	l := slices.Grow(list(0, 1, 2, 3, 4), 3)
	f := slices.Grow(faults(fault(1, 0), fault(2, 1)), 3)
	x := api.EngineTape{In: tape(slices.Grow(blocks(block(minusZero(), 30000, -5), block(7)), 3)), Faults: f}
	deal := slices.Grow(rows(slices.Grow(list(4, 0, 2), 3), slices.Grow(list(3, 1), 3)), 3)
	s, _ := engine.Start(g)
	s.Past[2], s.Filters[3] = slices.Grow(s.Past[2], 3), slices.Grow(s.Filters[3], 3)
	s.Past[0][9], s.Past[0][8], s.Filters[3][0].Y[0] = minusZero(), 6, 5
	one := api.EngineInput{Blocks: x.In[0][:1], Failed: slices.Grow(list(1, 2), 3)}
	all := []any{g, behindEnds(g), l, l[5:8], f, f[2:5], x, deal, deal[0][3:6], deal[1][2:5], s, s.Past[2][past : past+3], s.Filters[3][2:5], one, one.Failed[2:5]}
	before := textOf(all)
	for range 2 {
		for _, calls := range []map[string]graphCall{graphCalls(), evenCalls()} {
			for _, call := range calls {
				call(g, true)
				call(g, false)
			}
		}
		engine.CheckGraph(g)
		engine.CheckOrder(g, l)
		engine.CheckLatencies(g, l)
		engine.CheckUnequal(g, [2][]int{l, l[:2]})
		engine.CheckFaults(g, f)
		engine.Standing(g, f, 1)
		engine.CheckState(g, s)
		engine.Step(g, s, one)
		engine.Run(g, x.In, f)
		engine.CheckDeal(g, deal)
		engine.Dealt(g, deal, x)
		engine.Print(g)
	}
	if after := textOf(all); after != before {
		t.Errorf("%s became %s", before, after)
	}
}

// wantApart tests that changing one result, and appending to each of its lists, changes no other one.
func wantApart[T any](t *testing.T, name string, find func() T, change func(x T)) {
	t.Helper()
	first := find()
	want := textOf(first)
	change(first)
	if textOf(first) == want {
		t.Errorf("%s: nothing has changed", name)
	}
	if got := textOf(find()); got != want {
		t.Errorf("%s: %s, want %s", name, got, want)
	}
}

// R4: results are new memory, and share none with arguments.
func TestResultsAreNew(t *testing.T) {
	g := roomy()
	spoil := func(l []int) { l[0] += 77; _ = append(l, 78) }
	wantApart(t, "Order", func() []int { l, _ := engine.Order(g); return l }, spoil)
	wantApart(t, "Stages", func() [][]int { l, _ := engine.Stages(g); return l }, func(l [][]int) { spoil(l[0]) })
	wantApart(t, "Latencies", func() []int { l, _ := engine.Latencies(graphOf(input(), delay(0, 1, 1))); return l }, spoil)
	wantApart(t, "Unequal", func() [2][]int { l, _ := engine.Unequal(g); return l }, func(l [2][]int) { spoil(l[0]) })
	wantApart(t, "Standing", func() []int { l, _ := engine.Standing(g, nil, 0); return l }, spoil)
	wantApart(t, "Weak", func() []int { l, _ := engine.Weak(g); return l }, spoil)
	wantApart(t, "Start", func() api.EngineState { s, _ := engine.Start(g); return s }, func(s api.EngineState) { s.Past[0][0], s.Filters[3][0].X[0] = 5, 6 })
	wantApart(t, "Parse", func() api.EngineGraph { g, _, _ := engine.Parse(richText); return g }, func(g api.EngineGraph) { spoilGraph(g) })
	in := tape(blocks(block(5)))
	wantApart(t, "Run", func() [][]api.Block { out, _, _ := engine.Run(g, in, nil); return out }, func(out [][]api.Block) { out[0][0][0] = 99 })

	compensated := func() api.EngineGraph { c, _ := engine.Compensated(g); return c }
	before := textOf([]any{g, behindEnds(g)})
	wantApart(t, "Compensated", compensated, spoilGraph)
	c := compensated()
	spoilGraph(c)
	wantSame(t, "its argument", textOf([]any{g, behindEnds(g)}), api.OK, before, api.OK)
	c = compensated()
	want := textOf(c)
	spoilGraph(g)
	wantSame(t, "Compensated, the argument changed", textOf(c), api.OK, want, api.OK)
}

// spoilGraph changes each list of a graph, and appends to it.
func spoilGraph(g api.EngineGraph) {
	for i := range g.Units {
		u := &g.Units[i]
		for _, l := range rows(u.From, u.Align, u.Gains) {
			for k := range l {
				l[k] += 50
			}
			_ = append(l, 78)
		}
		for k := range u.Cascade {
			u.Cascade[k].B[0] = 79
		}
		_ = append(u.Cascade, half())
		u.Name += "-"
	}
	_ = append(g.Units, input())
}

// R4: the states and blocks of Step share nothing with the state ahead, and nothing with one another.
func TestStatesAreApart(t *testing.T) {
	g := graphOf(input(), filtered(0, 0, half()), behind(0, output(0, 0)), delay(0, 0, 0), output(3, 0))
	x := api.EngineInput{Blocks: blocks(constant(9, 0)), Failed: list(1, 2)}
	s, _ := engine.Start(g)
	y, next, _ := engine.Step(g, s, x)
	before, out, ahead := textOf(next), textOf(y), textOf(s)
	for _, l := range s.Past {
		l[100] = 77
	}
	s.Filters[1][0].X[0] = 78
	x.Blocks[0][0] = 79
	wantSame(t, "the state behind", textOf(next), api.OK, before, api.OK)
	wantSame(t, "the blocks", textOf(y), api.OK, out, api.OK)
	s, _ = engine.Start(g)
	for i, l := range next.Past {
		_ = append(l, 80)
		l[127] = float32(i + 81)
	}
	next.Filters[1][0].X[0] = 90
	wantSame(t, "the state ahead", textOf(s), api.OK, ahead, api.OK)
	for i, l := range next.Past {
		wantSame(t, "the last sample", l[127], api.OK, float32(i+81), api.OK)
		wantSame(t, "the one before", l[126], api.OK, []float32{9, 0, 9, 9, 9}[i], api.OK)
	}
	wantSame(t, "the blocks", textOf(y), api.OK, out, api.OK)

	two, _, _ := engine.Run(g, tape(silence(2)), nil)
	_ = append(two[0][:1], block(5))
	_ = append(two[0], block(6))
	two[1][0][0] = 7
	wantSame(t, "the other output", two[0][0], api.OK, block(), api.OK)
}

// R5: -0 counts as 0, and no result has it.
func TestMinusZero(t *testing.T) {
	r := rand.New(rand.NewSource(11))
	for range 60 {
		g := anyGraph(r, 8)
		g.Units = append(g.Units, named("zero", output(slices.IndexFunc(g.Units, func(u api.EngineUnit) bool { return u.Kind == api.UnitInput }), 0)))
		s, _ := engine.Start(g)
		for unit := range s.Past {
			for i := range s.Past[unit] {
				s.Past[unit][i] = anyOf(r, 0, 1, -1, minusZero())
			}
		}
		var x api.EngineInput
		for range countOf(g, api.UnitInput) {
			x.Blocks = append(x.Blocks, constant(minusZero(), r.Intn(32)))
		}
		y, next, e := engine.Step(g, s, x)
		wantErrno(t, "Step", e, api.OK)
		samples := slices.Concat(next.Past...)
		for _, b := range y.Blocks {
			samples = append(samples, b[:]...)
		}
		for _, x := range samples {
			if x == 0 && math.Signbit(float64(x)) {
				t.Fatalf("-0 of %+v", g)
			}
		}
	}
}

// P1: no kind of argument stops a function.
func TestStrangeArguments(t *testing.T) {
	r := rand.New(rand.NewSource(12))
	strange := func() int { return anyOf(r, -1, 0, 1, 2, 3, 64, 65, leastInt, greatestInt) }
	numbers := func() []int {
		var l []int
		for range r.Intn(4) {
			l = append(l, strange())
		}
		return l
	}
	for range 3000 {
		g := anyGraph(r, 6)
		u := &g.Units[r.Intn(len(g.Units))]
		switch r.Intn(6) {
		case 0:
			u.From = numbers()
		case 1:
			u.Align = numbers()
		case 2:
			u.Kind = strange()
		case 3:
			u.Stand = strange()
		case 4:
			u.Delay, u.Gains = strange(), numbers()
		}
		for _, calls := range []map[string]graphCall{graphCalls(), evenCalls()} {
			for name, f := range calls {
				if result, nothing, e := f(g, r.Intn(2) == 0); e != api.OK {
					wantSame(t, name, result, e, nothing, e)
				}
			}
		}
		engine.CheckOrder(g, numbers())
		engine.CheckLatencies(g, numbers())
		engine.CheckUnequal(g, [2][]int{numbers(), numbers()})
		engine.Standing(g, faults(fault(strange(), strange())), strange())
		engine.CheckDeal(g, rows(numbers(), numbers()))
		engine.Step(g, api.EngineState{Blocks: strange()}, api.EngineInput{Failed: numbers()})
	}
}
