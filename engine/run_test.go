package engine_test

import (
	"math/rand"
	"slices"
	"testing"

	"shoebox/api"
	"shoebox/engine"
	"shoebox/filter"
)

// wantRun tests what a tape gives, also if it is dealt out.
func wantRun(t *testing.T, name string, g api.EngineGraph, in [][]api.Block, l []api.EngineFault, cuts int, want ...[]api.Block) {
	t.Helper()
	out, n, e := engine.Run(g, in, l)
	wantSame(t, "Run: "+name, played{out, n}, e, played{want, cuts}, api.OK)
	var deal [][]int
	for unit := range g.Units {
		if unit < 8 {
			deal = append(deal, nil)
		}
		deal[unit%8] = append(deal[unit%8], unit)
	}
	if len(deal) == 0 {
		deal = rows(nil)
	}
	out, n, e = engine.Dealt(g, deal, api.EngineTape{In: in, Faults: l})
	wantSame(t, "Dealt: "+name, played{out, n}, e, played{want, cuts}, api.OK)
}

// with is a block of the same sample from a time on, and another one before.
func with(x float32, from int, before float32) api.Block {
	b := constant(x, from)
	for t := range from {
		b[t] = before
	}
	return b
}

// P9.4: the runs of the examples.
func TestRunExamples(t *testing.T) {
	impulse := tape(blocks(block(100)))
	wantRun(t, "impulse", plain(), impulse, nil, 0, blocks(block(50, 0, 0, 100)))
	wantRun(t, "impulse, compensated", compensated(), impulse, nil, 0, blocks(block(0, 0, 0, 150)))
	impulse = tape(blocks(block(101)))
	wantRun(t, "impulse of 101", plain(), impulse, nil, 0, blocks(block(51, 0, 0, 101)))
	wantRun(t, "impulse of 101, compensated", compensated(), impulse, nil, 0, blocks(block(0, 0, 0, 152)))
	wantRun(t, "cuts", plain(), tape(blocks(constant(30000, 0))), nil, 29, blocks(with(loud, 3, 15000)))

	hundred := tape(blocks(constant(100, 0), constant(100, 0)))
	before := with(150, 3, 50)
	failing := faults(fault(1, 1))
	wantRun(t, "a fault", plain(), hundred, failing, 0, blocks(before, constant(50, 0)))
	wantRun(t, "a stand-in", covered(), hundred, failing, 0, blocks(before, constant(150, 0)))
}

// P9.4: what each kind of unit gives.
func TestRunKinds(t *testing.T) {
	in := tape(blocks(block(1000, -7, 5)))
	late := block(0, 0, 0, 0, 0, 1000, -7, 5)
	wantRun(t, "an output", graphOf(input(), output(0, 5)), in, nil, 0, blocks(late))
	wantRun(t, "a delay", graphOf(input(), delay(0, 3, 2), output(1, 0)), in, nil, 0, blocks(late))
	wantRun(t, "a sum", graphOf(input(), sum(taken{0, 5, 1000}), output(1, 0)), in, nil, 0, blocks(late))
	wantRun(t, "a filter without sections", graphOf(input(), filtered(0, 5), output(1, 0)), in, nil, 0, blocks(late))
	wantRun(t, "an output of an output", graphOf(input(), output(2, 4), output(0, 1)), in, nil, 0, blocks(late), blocks(block(0, 1000, -7, 5)))
	wantRun(t, "a sum of gain 0", graphOf(input(), sum(taken{0, 0, 0}), output(1, 0)), in, nil, 0, blocks(block()))

	// the rest of a delay comes in the blocks behind
	wantRun(t, "the greatest delay", graphOf(input(), delay(0, 64, 64), output(1, 0)), tape(append(blocks(block(9, 8), block(7)), silence(3)...)), nil, 0,
		append(silence(4), block(9, 8)))
	halved := constant(1, 6)
	copy(halved[:], []float32{50, 25, 13, 7, 4, 2})
	wantRun(t, "a filter", graphOf(input(), filtered(0, 0, half()), output(1, 0)), tape(blocks(block(100), block(-2))), nil, 0, blocks(halved, block()))
	wantRun(t, "cuts of a filter", graphOf(input(), filtered(0, 1, double(), double())), tape(blocks(block(20000, -9000, 1))), nil, 3)
	wantRun(t, "channels", graphOf(output(3, 0), input(), output(1, 0), input()), tape(blocks(block(1)), blocks(block(2))), nil, 0, blocks(block(2)), blocks(block(1)))
}

// P9.4: sums are rounded once, halves up, and cut; what nobody takes counts, too.
func TestRunSums(t *testing.T) {
	halves := tape(blocks(block(1, -1, 3, -3, 499, -500, -501)), blocks(block(0, 0, 0, 0, 1, 0, 0)))
	two := graphOf(input(), input(), sum(taken{0, 0, 500}, taken{1, 0, 500}), output(2, 0))
	wantRun(t, "halves up", two, halves, nil, 0, blocks(block(1, 0, 2, -1, 250, -250, -250)))
	wantRun(t, "parts", graphOf(input(), sum(taken{0, 0, 1}), output(1, 0)), tape(blocks(block(499, 500, 501, -499, -500, -501, 1500))), nil, 0,
		blocks(block(0, 1, 1, 0, 0, -1, 2)))
	// a half and a half are one: rounded once
	wantRun(t, "once", two, tape(blocks(block(1, -1)), blocks(block(1, -1))), nil, 0, blocks(block(1, -1)))
	wantRun(t, "to nothing", graphOf(input(), input(), sum(taken{0, 0, 4000}, taken{1, 0, -4000}), output(2, 0)),
		tape(blocks(block(loud)), blocks(block(loud-1))), nil, 0, blocks(block(4)))

	edge := graphOf(input(), input(), sum(taken{0, 0, 1000}, taken{1, 0, 1}), output(2, 0))
	wantRun(t, "the edge", edge, tape(blocks(block(loud, -loud, loud, -loud, loud, -loud)), blocks(block(0, 0, 499, -500, 500, -501))), nil, 2,
		blocks(block(loud, -loud, loud, -loud, loud, -loud)))
	var loudest []taken
	for i := range 6 {
		loudest = append(loudest, taken{i, 0, -mostGain})
	}
	in := slices.Repeat(tape(blocks(block(loud, -loud))), 6)
	units := append(slices.Repeat([]api.EngineUnit{input()}, 6), sum(loudest...))
	wantRun(t, "nobody takes it", graphOf(units...), in, nil, 2)
}

// P9.3, P9.4: what units give that have failed, and those that take from them.
func TestRunFaults(t *testing.T) {
	in := tape(blocks(constant(10, 0), constant(20, 0), constant(30, 0)), blocks(constant(1, 0), constant(2, 0), constant(3, 0)))
	simple := graphOf(behind(1, input()), input(), output(0, 0))
	plainOut := in[0]
	wantRun(t, "nothing", simple, in, nil, 0, plainOut)
	wantRun(t, "an input", simple, in, faults(fault(0, 1)), 0, blocks(in[0][0], in[1][1], in[1][2]))
	wantRun(t, "an input at last", simple, in, faults(fault(0, 2)), 0, blocks(in[0][0], in[0][1], in[1][2]))
	wantRun(t, "its stand-in alone", simple, in, faults(fault(1, 0)), 0, plainOut)
	wantRun(t, "its stand-in later", simple, in, faults(fault(0, 0), fault(1, 1)), 0, blocks(in[1][0], block(), block()))
	wantRun(t, "its stand-in before", simple, in, faults(fault(1, 1), fault(0, 2)), 0, blocks(in[0][0], in[0][1], block()))
	wantRun(t, "an output", simple, in, faults(fault(2, 1)), 0, blocks(in[0][0], block(), block()))
	wantRun(t, "never", simple, in, faults(fault(0, 3), fault(2, 16)), 0, plainOut)
	wantRun(t, "an output with a stand-in", graphOf(input(), input(), behind(1, output(0, 0))), in, faults(fault(2, 2)), 0, blocks(in[0][0], in[0][1], in[1][2]))

	// what it had given before stays, and who stands in is not delayed otherwise
	late := graphOf(behind(1, input()), input(), delay(0, 4, 0), output(2, 0))
	wantRun(t, "a delay behind", late, in, faults(fault(0, 1)), 0, blocks(constant(10, 4), with(2, 4, 10), with(3, 4, 2)))
	alone := graphOf(input(), input(), behind(1, delay(0, 0, 4)), output(2, 0))
	wantRun(t, "a delay itself", alone, in, faults(fault(2, 1)), 0, blocks(constant(10, 4), in[1][1], in[1][2]))

	// what was not worked on is not cut
	noisy := graphOf(input(), behind(0, sum(taken{0, 0, 4000})), filtered(0, 0, double()), output(1, 0), output(2, 0))
	twice := tape(blocks(constant(20000, 0), constant(20000, 0)))
	wantRun(t, "cuts", noisy, twice, faults(fault(1, 1)), 3*size, blocks(constant(loud, 0), constant(20000, 0)), slices.Repeat(blocks(constant(loud, 0)), 2))
	wantRun(t, "cuts of a filter", noisy, twice, faults(fault(2, 1)), 3*size, slices.Repeat(blocks(constant(loud, 0)), 2), blocks(constant(loud, 0), block()))
}

// P9.3: a chain of stand-ins, one failing after the other.
func TestRunChain(t *testing.T) {
	var in [][]api.Block
	var units []api.EngineUnit
	var l []api.EngineFault
	for i := range 5 {
		in = append(in, slices.Repeat(blocks(constant(float32(i+1), 0)), 6))
		units = append(units, behind(i-1, input()))
		l = append(l, fault(i, 5-i))
	}
	g := graphOf(append(units, output(4, 0))...)
	var want []api.Block
	for _, x := range []float32{5, 4, 3, 2, 1, 0} {
		want = append(want, constant(x, 0))
	}
	wantRun(t, "one after the other", g, in, l, 0, want)
	for i := range l {
		l[i].Block = 2
	}
	wantRun(t, "all together", g, in, l, 0, blocks(want[0], want[0], block(), block(), block(), block()))
}

// P9.4: tapes that are no tapes, and the order of errors.
func TestWrongTapes(t *testing.T) {
	two := graphOf(input(), output(0, 0), input())
	spoil := func(channel, block, time int, x float32) [][]api.Block {
		in := tape(silence(2), silence(2))
		in[channel][block][time] = x
		return in
	}
	twice := spoil(0, 1, 5, loud+1)
	twice[1][0][0] = 0.5
	within := spoil(1, 0, 0, 0.5)
	within[0][1][31] = -loud - 1
	ahead := spoil(0, 0, 3, loud+1)
	ahead[0][0][4] = nan()
	long := tape(silence(17), silence(17))
	long[0][0][0] = nan()
	uneven := tape(silence(17), silence(18))
	uneven[0][0][0] = nan()
	for _, c := range []struct {
		name string
		in   [][]api.Block
		want api.Errno
	}{
		{"none", nil, api.ErrShape},
		{"one", tape(silence(1)), api.ErrShape},
		{"three", tape(silence(1), silence(1), silence(1)), api.ErrShape},
		{"uneven", tape(silence(1), silence(2)), api.ErrShape},
		{"uneven to nothing", tape(silence(1), nil), api.ErrShape},
		{"nothing and uneven", tape(nil, silence(1)), api.ErrShape},
		{"uneven and too many", uneven, api.ErrShape},
		{"too many", long, api.ErrLarge},
		{"a half", spoil(1, 1, 31, 0.5), api.ErrWhole},
		{"less than a half", spoil(0, 0, 0, -0.25), api.ErrWhole},
		{"tiny", spoil(0, 0, 0, 1e-45), api.ErrWhole},
		{"no number", spoil(0, 1, 2, nan()), api.ErrWhole},
		{"endless", spoil(1, 0, 2, endless()), api.ErrWhole},
		{"endless below", spoil(1, 0, 2, -endless()), api.ErrWhole},
		{"too loud", spoil(1, 1, 31, loud+1), api.ErrRange},
		{"too loud below", spoil(0, 0, 0, -loud-1), api.ErrRange},
		{"far too loud", spoil(0, 0, 0, 3e38), api.ErrRange},
		{"a channel ahead of another one", twice, api.ErrRange},
		{"a block ahead of another channel", within, api.ErrRange},
		{"a sample ahead of another one", ahead, api.ErrRange},
	} {
		out, cuts, e := engine.Run(two, c.in, faults(fault(9, 9)))
		wantWrong(t, "Run: "+c.name, played{out, cuts}, e, c.want)
		out, cuts, e = engine.Dealt(two, rows(list(0, 1, 2)), api.EngineTape{In: c.in, Faults: faults(fault(9, 9))})
		wantWrong(t, "Dealt: "+c.name, played{out, cuts}, e, c.want)
	}
	out, cuts, e := engine.Run(two, tape(silence(1), silence(1)), faults(fault(9, 9)))
	wantWrong(t, "Run: faults", played{out, cuts}, e, api.ErrMissing)

	wantRun(t, "no blocks", two, tape(nil, nil), nil, 0, nil)
	wantRun(t, "16 blocks", two, tape(silence(16), silence(16)), faults(fault(0, 16)), 0, silence(16))
	wantRun(t, "edges", two, tape(blocks(block(loud, -loud, minusZero())), silence(1)), nil, 0, blocks(block(loud, -loud)))
	wantRun(t, "no units", graphOf(), nil, nil, 0)
	out, cuts, e = engine.Run(graphOf(), tape(nil), nil)
	wantWrong(t, "a channel without an input", played{out, cuts}, e, api.ErrShape)
}

// P9.4, P9.7: Run, Dealt and Step give what the definitions say.
func TestRunSlowly(t *testing.T) {
	r := rand.New(rand.NewSource(5))
	for range 150 {
		g := anyGraph(r, 14)
		count := between(r, 0, 5)
		in := anyTape(r, g, count)
		l := anyFaults(r, g, 6)
		slow := newSlowRun(g, in, faulty(l))
		want := slow.all(count)
		wantRun(t, "anything", g, in, l, want.cuts, want.out...)
		wantSteps(t, g, in, faulty(l), want, slow.state(count))
		if t.Failed() {
			t.Fatalf("%+v", g)
		}
	}
}

// P9.4: units that fail for some blocks only keep their states, and what they gave.
func TestStepSlowly(t *testing.T) {
	r := rand.New(rand.NewSource(6))
	for range 150 {
		g := anyGraph(r, 10)
		count := between(r, 1, 7)
		in := anyTape(r, g, count)
		when := make([]int, len(g.Units)) // a bit for each block
		for unit := range when {
			when[unit] = anyOf(r, 0, r.Intn(256))
		}
		failed := func(unit, block int) bool { return when[unit]>>block&1 == 1 }
		slow := newSlowRun(g, in, failed)
		want := slow.all(count)
		wantSteps(t, g, in, failed, want, slow.state(count))
		if t.Failed() {
			t.Fatalf("%+v", g)
		}
	}
}

// wantSteps goes through a tape step by step.
func wantSteps(t *testing.T, g api.EngineGraph, in [][]api.Block, failed hasFailed, want played, end api.EngineState) {
	t.Helper()
	s, e := engine.Start(g)
	wantErrno(t, "Start", e, api.OK)
	got := played{out: make([][]api.Block, countOf(g, api.UnitOutput))}
	for number := range end.Blocks {
		var x api.EngineInput
		for _, l := range in {
			x.Blocks = append(x.Blocks, l[number])
		}
		for unit := range g.Units {
			if failed(unit, number) {
				x.Failed = append(x.Failed, unit)
			}
		}
		var y api.EngineOutput
		y, s, e = engine.Step(g, s, x)
		wantErrno(t, "Step", e, api.OK)
		for i, b := range y.Blocks {
			got.out[i] = append(got.out[i], b)
		}
		got.cuts += y.Cuts
		wantErrno(t, "CheckState", engine.CheckState(g, s), api.OK)
	}
	wantSame(t, "Step", got, e, want, api.OK)
	wantSame(t, "states", s, e, end, api.OK)
}

// P9.9: nothing comes earlier than by the shortest way, and moved tapes give moved outputs.
func TestRunLater(t *testing.T) {
	r := rand.New(rand.NewSource(7))
	for range 150 {
		g := anyGraph(r, 12)
		in := anyTape(r, g, 4)
		out, cuts, e := engine.Run(g, in, nil)
		for i, l := range in {
			in[i] = append(silence(1), l...)
		}
		for i, l := range out {
			out[i] = append(silence(1), l...)
		}
		moved, movedCuts, _ := engine.Run(g, in, nil)
		wantSame(t, "Run, moved", played{moved, movedCuts}, e, played{out, cuts}, api.OK)
		wantNotEarly(t, g)
	}
}

// wantNotEarly tests that an impulse at all inputs comes out no earlier than by the shortest way.
func wantNotEarly(t *testing.T, g api.EngineGraph) {
	t.Helper()
	var in [][]api.Block
	var shortest []int
	for unit, u := range g.Units {
		switch u.Kind {
		case api.UnitInput:
			in = append(in, append(blocks(block(loud)), silence(9)...))
		case api.UnitOutput:
			shortest = append(shortest, lengthsTo(g, unit)[0])
		}
	}
	out, _, e := engine.Run(g, in, nil)
	wantErrno(t, "Run", e, api.OK)
	for i, l := range out {
		for time := range min(shortest[i], 10*size) {
			if x := l[time/size][time%size]; x != 0 {
				t.Errorf("%v at %d, the shortest way is %d", x, time, shortest[i])
			}
		}
	}
}

// P9.10: without anybody there are zeros.
func TestRunWithoutAnybody(t *testing.T) {
	r := rand.New(rand.NewSource(8))
	for range 100 {
		g := anyGraph(r, 10)
		l := allFaults(g)
		for i := range l {
			l[i].Block = between(r, 0, 2)
		}
		out, _, e := engine.Run(g, anyTape(r, g, 4), l)
		wantErrno(t, "Run", e, api.OK)
		for _, l := range out {
			wantSame(t, "zeros", l[2:], e, silence(2), api.OK)
		}
	}
}

// P9.4: the state ahead of all blocks.
func TestStart(t *testing.T) {
	s, e := engine.Start(graphOf())
	wantSame(t, "nothing", s, e, api.EngineState{}, api.OK)
	g := graphOf(input(), filtered(0, 0, half(), double()), output(1, 0), filtered(0, 0))
	s, e = engine.Start(g)
	want := api.EngineState{
		Past:    [][]float32{make([]float32, past), make([]float32, past), make([]float32, past), make([]float32, past)},
		Filters: [][]api.FilterState{nil, make([]api.FilterState, 2), nil, nil},
	}
	wantSame(t, "two sections", s, e, want, api.OK)
	wantErrno(t, "CheckState", engine.CheckState(g, s), api.OK)
}

// stateful is a graph whose state has samples and states of two filters.
func stateful() api.EngineGraph {
	return graphOf(filtered(1, 0, half(), double()), input(), output(0, 0), filtered(0, 64, half()))
}

// wrongState is what is wrong with a state.
type wrongState struct {
	name  string
	spoil func(s *api.EngineState)
	want  api.Errno
}

func wrongStates() []wrongState {
	sample := func(unit, time int, x float32) func(s *api.EngineState) {
		return func(s *api.EngineState) { s.Past[unit][time] = x }
	}
	l := []wrongState{
		{"too few pasts", func(s *api.EngineState) { s.Past = s.Past[:3] }, api.ErrShape},
		{"too many pasts", func(s *api.EngineState) { s.Past = append(s.Past, make([]float32, past)) }, api.ErrShape},
		{"no pasts", func(s *api.EngineState) { s.Past = nil }, api.ErrShape},
		{"too few filters", func(s *api.EngineState) { s.Filters = s.Filters[:3] }, api.ErrShape},
		{"too many filters", func(s *api.EngineState) { s.Filters = append(s.Filters, nil) }, api.ErrShape},
		{"a short past", func(s *api.EngineState) { s.Past[3] = s.Past[3][1:] }, api.ErrShape},
		{"a long past", func(s *api.EngineState) { s.Past[2] = append(s.Past[2], 0) }, api.ErrShape},
		{"no past", func(s *api.EngineState) { s.Past[0] = nil }, api.ErrShape},
		{"too few states", func(s *api.EngineState) { s.Filters[0] = s.Filters[0][:1] }, api.ErrShape},
		{"too many states", func(s *api.EngineState) { s.Filters[3] = append(s.Filters[3], api.FilterState{}) }, api.ErrShape},
		{"a state of an output", func(s *api.EngineState) { s.Filters[2] = make([]api.FilterState, 1) }, api.ErrShape},
		{"the last shape ahead of the first sample", func(s *api.EngineState) { s.Past[0][0], s.Filters[3] = nan(), nil }, api.ErrShape},
		{"a long list ahead of the first sample", func(s *api.EngineState) { s.Past[0][0], s.Filters[3] = nan(), make([]api.FilterState, 2) }, api.ErrShape},
		{"a half", sample(0, 0, 0.5), api.ErrWhole},
		{"a half at the end", sample(3, 127, -0.5), api.ErrWhole},
		{"no number", sample(2, 5, nan()), api.ErrWhole},
		{"endless", sample(1, 5, endless()), api.ErrWhole},
		{"too loud", sample(0, 0, loud+1), api.ErrRange},
		{"too loud at the end", sample(3, 127, -loud-1), api.ErrRange},
		{"a sample ahead of another one", func(s *api.EngineState) { s.Past[1][4], s.Past[1][5] = loud+1, 0.5 }, api.ErrRange},
		{"a unit ahead of another one", func(s *api.EngineState) { s.Past[1][127], s.Past[2][0] = loud+1, 0.5 }, api.ErrRange},
		{"a sample ahead of a state", func(s *api.EngineState) { s.Past[3][127], s.Filters[3][0].X[0] = 0.5, loud+1 }, api.ErrWhole},
		{"a state ahead of another unit", func(s *api.EngineState) { s.Past[1][0], s.Filters[0][0].X[0] = 0.5, loud+1 }, api.ErrRange},
		{"right", func(s *api.EngineState) { s.Past[2][7], s.Past[0][0], s.Filters[0][1].Y[1] = loud, minusZero(), -loud }, api.OK},
		{"the last step", func(s *api.EngineState) { s.Blocks = mostBlocks }, api.OK},
	}
	for _, n := range list(loud+1, -loud-1, greatestInt, leastInt) {
		l = append(l,
			wrongState{"an input", func(s *api.EngineState) { s.Filters[0][1].X[1] = n }, api.ErrRange},
			wrongState{"an output", func(s *api.EngineState) { s.Filters[3][0].Y[0] = n }, api.ErrRange},
		)
	}
	for _, n := range list(-1, 17, greatestInt, leastInt) {
		l = append(l, wrongState{"blocks", func(s *api.EngineState) { s.Blocks, s.Past = n, nil }, api.ErrRange})
	}
	return l
}

// P9.4: states that are none, and the order of errors; Step has them ahead of its own.
func TestWrongStates(t *testing.T) {
	g := stateful()
	for _, c := range wrongStates() {
		s, _ := engine.Start(g)
		c.spoil(&s)
		wantErrno(t, "CheckState: "+c.name, engine.CheckState(g, s), c.want)
		if c.want != api.OK {
			y, next, e := engine.Step(g, s, api.EngineInput{})
			wantWrong(t, "Step: "+c.name, y, e, c.want)
			wantWrong(t, "Step: "+c.name, next, e, c.want)
		}
	}
}

// P9.4: steps that cannot be, and the order of errors.
func TestWrongSteps(t *testing.T) {
	g := stateful()
	right := api.EngineInput{Blocks: silence(1), Failed: list(0, 2, 3)}
	for _, c := range []struct {
		name string
		x    api.EngineInput
		want api.Errno
	}{
		{"right", right, api.OK},
		{"all", api.EngineInput{Blocks: silence(1), Failed: list(0, 1, 2, 3)}, api.OK},
		{"no block", api.EngineInput{Failed: list(9)}, api.ErrShape},
		{"two blocks", api.EngineInput{Blocks: blocks(block(nan()), block())}, api.ErrShape},
		{"a half", api.EngineInput{Blocks: blocks(constant(0.5, 31)), Failed: list(9)}, api.ErrWhole},
		{"no number", api.EngineInput{Blocks: blocks(constant(nan(), 31))}, api.ErrWhole},
		{"too loud", api.EngineInput{Blocks: blocks(constant(-loud-1, 31)), Failed: list(9)}, api.ErrRange},
		{"a sample ahead of another one", api.EngineInput{Blocks: blocks(block(0, 0.5, loud+1))}, api.ErrWhole},
		{"a unit too many", api.EngineInput{Blocks: silence(1), Failed: list(4)}, api.ErrMissing},
		{"a unit below", api.EngineInput{Blocks: silence(1), Failed: list(-1)}, api.ErrMissing},
		{"far away", api.EngineInput{Blocks: silence(1), Failed: list(0, greatestInt, 0)}, api.ErrMissing},
		{"far below", api.EngineInput{Blocks: silence(1), Failed: list(1, leastInt)}, api.ErrMissing},
		{"turned", api.EngineInput{Blocks: silence(1), Failed: list(2, 1, 9)}, api.ErrOrder},
		{"twice", api.EngineInput{Blocks: silence(1), Failed: list(1, 1)}, api.ErrOrder},
		{"turned at last", api.EngineInput{Blocks: silence(1), Failed: list(0, 3, 2)}, api.ErrOrder},
	} {
		s, _ := engine.Start(g)
		y, next, e := engine.Step(g, s, c.x)
		wantErrno(t, "Step: "+c.name, e, c.want)
		if c.want != api.OK {
			wantWrong(t, "Step: "+c.name, y, e, c.want)
			wantWrong(t, "Step: "+c.name, next, e, c.want)
		}
		s.Blocks = 15
		_, next, e = engine.Step(g, s, right)
		wantSame(t, "the last step", next.Blocks, e, 16, api.OK)
		s.Blocks = 16
		y, next, e = engine.Step(g, s, c.x)
		wantWrong(t, "a step too many", y, e, api.ErrFull)
		wantWrong(t, "a step too many", next, e, api.ErrFull)
	}
	// steps without units
	y, s, e := engine.Step(graphOf(), api.EngineState{Blocks: 3}, api.EngineInput{})
	wantSame(t, "outputs of nothing", y, e, api.EngineOutput{}, api.OK)
	wantSame(t, "state of nothing", s, e, api.EngineState{Blocks: 4}, api.OK)
}

// P9.4: a step from a state of one's own: what was there is taken, with -0 as 0.
func TestStepFrom(t *testing.T) {
	g := graphOf(input(), delay(0, 64, 64), filtered(0, 1, half()), output(1, 0), output(2, 0))
	s, _ := engine.Start(g)
	for i := range past {
		s.Past[0][i] = float32(i) - 64
	}
	s.Past[0][127], s.Past[3][5], s.Past[3][100] = -50, minusZero(), minusZero()
	s.Filters[2][0] = api.FilterState{X: [2]int{7, 8}, Y: [2]int{100, 3}}
	s.Blocks = 9
	y, next, e := engine.Step(g, s, api.EngineInput{Blocks: blocks(block(10, minusZero(), 30))})
	var ramp api.Block
	for i := range ramp {
		ramp[i] = float32(i) - 64
	}
	in := block(-50, 10, 0, 30)
	filteredBlock, states, _, _ := filter.Run(g.Units[2].Cascade, in, s.Filters[2])
	wantSame(t, "outputs", y, e, api.EngineOutput{Blocks: blocks(ramp, filteredBlock)}, api.OK)
	want := api.EngineState{Blocks: 10, Filters: [][]api.FilterState{nil, nil, states, nil, nil}}
	behindIt := [][]float32{slices.Concat(s.Past[0][32:], []float32{10, 0, 30}, make([]float32, 29))}
	for _, b := range blocks(ramp, filteredBlock, ramp, filteredBlock) {
		behindIt = append(behindIt, append(make([]float32, 96), b[:]...))
	}
	want.Past = behindIt
	wantSame(t, "the state behind", next, e, want, api.OK)
}

// P9.4: a unit that has failed keeps the states of its filter, and its Past has what was taken.
func TestStepFailed(t *testing.T) {
	g := graphOf(input(), behind(0, filtered(0, 0, half())), output(1, 2))
	s, _ := engine.Start(g)
	_, s, _ = engine.Step(g, s, api.EngineInput{Blocks: blocks(constant(100, 0))})
	kept := s.Filters[1][0]
	wantSame(t, "states", kept, api.OK, api.FilterState{X: [2]int{100, 100}, Y: [2]int{100, 100}}, api.OK)
	y, s, e := engine.Step(g, s, api.EngineInput{Blocks: blocks(constant(7, 0)), Failed: list(1)})
	wantSame(t, "outputs", y.Blocks, e, blocks(with(7, 2, 100)), api.OK)
	wantSame(t, "states, failed", s.Filters[1][0], e, kept, api.OK)
	wantSame(t, "past, failed", s.Past[1][95:99], e, []float32{100, 7, 7, 7}, api.OK)
	y, s, e = engine.Step(g, s, api.EngineInput{Blocks: blocks(block()), Failed: list(0, 1)})
	wantSame(t, "outputs of nobody", y.Blocks, e, blocks(with(0, 2, 7)), api.OK)
	y, _, e = engine.Step(g, s, api.EngineInput{Blocks: blocks(block())})
	wantSame(t, "repaired", y.Blocks[0][2:6], e, []float32{50, 25, 13, 7}, api.OK)
}
