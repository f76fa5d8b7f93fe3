package engine_test

import (
	"math/rand"
	"testing"

	"shoebox/api"
	"shoebox/engine"
)

// chainOfStands is an input, and units each of which has the one before to stand in for it; the first one has nobody.
func chainOfStands(count int) api.EngineGraph {
	units := []api.EngineUnit{input()}
	for i := 1; i < count; i++ {
		units = append(units, behind(i-1, output(0, 0)))
	}
	return graphOf(units...)
}

// allFaults is a fault of each unit of a graph, in the block 0.
func allFaults(g api.EngineGraph) []api.EngineFault {
	var l []api.EngineFault
	for unit := range g.Units {
		l = append(l, fault(unit, 0))
	}
	return l
}

// P9.3: right and wrong faults, and the order of errors.
func TestFaults(t *testing.T) {
	g := plain()
	right, wrong := fault(0, 1), fault(0, 17)
	for _, c := range []struct {
		l    []api.EngineFault
		n    int
		want api.Errno
	}{
		{nil, 0, api.OK},
		{faults(right), 0, api.OK},
		{faults(fault(3, 0), fault(0, 16), fault(2, 5), fault(1, 0)), 0, api.OK},
		{make([]api.EngineFault, 25), 0, api.ErrLarge},
		{append(make([]api.EngineFault, 24), fault(9, 0)), 0, api.ErrLarge},
		{make([]api.EngineFault, 24), 1, api.ErrDouble},
		{faults(fault(4, 0)), 0, api.ErrMissing},
		{faults(right, fault(-1, 0)), 1, api.ErrMissing},
		{faults(right, fault(1, 2), fault(greatestInt, 99)), 2, api.ErrMissing},
		{faults(fault(leastInt, 0)), 0, api.ErrMissing},
		{faults(right, right), 1, api.ErrDouble},
		{faults(right, fault(2, 1), fault(0, 99)), 2, api.ErrDouble},
		{faults(right, fault(2, 1), fault(3, 1), fault(2, 3)), 3, api.ErrDouble},
		{faults(wrong), 0, api.ErrRange},
		{faults(wrong, fault(9, 9)), 0, api.ErrRange},
		{faults(right, fault(1, -1)), 1, api.ErrRange},
		{faults(right, fault(1, greatestInt)), 1, api.ErrRange},
		{faults(right, fault(1, leastInt)), 1, api.ErrRange},
	} {
		n, e := engine.CheckFaults(g, c.l)
		wantSame(t, "CheckFaults of "+textOf(c.l), n, e, c.n, c.want)
		if c.want != api.OK {
			for _, block := range list(0, 17) {
				l, e := engine.Standing(g, c.l, block)
				wantWrong(t, "Standing", l, e, c.want)
			}
			_, _, e := engine.Run(g, tape(silence(1)), c.l)
			wantErrno(t, "Run", e, c.want)
		}
	}
	n, e := engine.CheckFaults(long(24), allFaults(long(24)))
	wantSame(t, "a fault of each unit", n, e, 0, api.OK)
	n, e = engine.CheckFaults(graphOf(), faults(fault(0, 0)))
	wantSame(t, "nothing that can fail", n, e, 0, api.ErrMissing)
}

// P9.3: who stands in, and from which block on.
func TestStanding(t *testing.T) {
	for _, block := range list(-1, 17, greatestInt, leastInt) {
		l, e := engine.Standing(plain(), nil, block)
		wantWrong(t, "Standing", l, e, api.ErrRange)
	}
	l, e := engine.Standing(graphOf(), nil, 16)
	wantSame(t, "nothing", l, e, nil, api.OK)
	for _, c := range []struct {
		name  string
		g     api.EngineGraph
		l     []api.EngineFault
		block int
		want  []int
	}{
		{"no faults", plain(), nil, 16, list(0, 1, 2, 3)},
		{"the example", plain(), faults(fault(1, 1)), 1, list(0, -1, 2, 3)},
		{"ahead of it", plain(), faults(fault(1, 1)), 0, list(0, 1, 2, 3)},
		{"behind it", plain(), faults(fault(1, 1)), 16, list(0, -1, 2, 3)},
		{"a stand-in", covered(), faults(fault(1, 1)), 1, list(0, 0, 2, 3)},
		{"a stand-in that failed", covered(), faults(fault(1, 1), fault(0, 0)), 1, list(-1, -1, 2, 3)},
		{"one that fails later", covered(), faults(fault(0, 5), fault(1, 1)), 4, list(0, 0, 2, 3)},
		{"the last block", plain(), faults(fault(1, 16)), 16, list(0, -1, 2, 3)},
		{"ahead of the last block", plain(), faults(fault(1, 16)), 15, list(0, 1, 2, 3)},
		{"a chain", chainOfStands(5), faults(fault(4, 0), fault(3, 0), fault(2, 0)), 0, list(0, 1, 1, 1, 1)},
		{"a chain with a gap", chainOfStands(5), faults(fault(4, 0), fault(2, 0)), 0, list(0, 1, 1, 3, 3)},
		{"all", chainOfStands(5), allFaults(chainOfStands(5)), 0, list(-1, -1, -1, -1, -1)},
		{"one with a greater number", graphOf(behind(2, input()), output(0, 0), input()), faults(fault(0, 0)), 0, list(2, 1, 2)},
	} {
		l, e := engine.Standing(c.g, c.l, c.block)
		wantSame(t, "Standing: "+c.name, l, e, c.want, api.OK)
	}
}

// P9.3: the weak units of the examples, and what makes others weak or not.
func TestWeak(t *testing.T) {
	for _, c := range []struct {
		name string
		g    api.EngineGraph
		want []int
	}{
		{"nothing", graphOf(), nil},
		{"the example", plain(), list(0, 2)},
		{"without an output", graphOf(input(), delay(0, 0, 0)), nil},
		{"an output alone", graphOf(input(), output(0, 0)), list(0)},
		{"an output behind another one", graphOf(input(), output(0, 0), output(1, 0)), list(0, 1)},
		{"two inputs", graphOf(input(), input(), sum(taken{0, 0, 0}, taken{1, 0, 0}), output(2, 0)), list(2)},
		{"a stand-in of an input", graphOf(behind(1, input()), input(), output(0, 0)), nil},
		{"a stand-in of a sum", graphOf(input(), behind(0, sum(taken{0, 0, 1})), output(1, 0)), list(0)},
		{"two outputs", graphOf(input(), input(), output(0, 0), output(1, 0)), list(0, 1)},
		// it gives what it stands in for, but nobody stands in for itself
		{"a stand-in alone", graphOf(behind(1, input()), input(), output(0, 0), output(1, 0)), list(1)},
		// a gain of 0 feeds as well
		{"no gain", graphOf(input(), input(), sum(taken{0, 0, 0}, taken{1, 0, 1}), output(2, 0)), list(2)},
	} {
		l, e := engine.Weak(c.g)
		wantSame(t, "Weak of "+c.name, l, e, c.want, api.OK)
	}
}

// P9.3, P9.10: who stands in has not failed, and weak units are those of the definition.
func TestFaultsSlowly(t *testing.T) {
	r := rand.New(rand.NewSource(4))
	weak := 0
	for range 500 {
		g := anyGraph(r, 10)
		l, e := engine.Weak(g)
		wantSame(t, "Weak", l, e, slowWeak(g), api.OK)
		weak += len(l)
		f := anyFaults(r, g, 4)
		failed := faulty(f)
		for block := range 6 {
			var want []int
			for unit := range g.Units {
				want = append(want, slowStand(g, failed, unit, block))
			}
			l, e := engine.Standing(g, f, block)
			wantSame(t, "Standing", l, e, want, api.OK)
			for _, who := range l {
				if who != nobody && failed(who, block) {
					t.Errorf("%d stands in, but has failed", who)
				}
			}
		}
	}
	if weak < 200 {
		t.Errorf("only %d weak units", weak)
	}
}

// P9.3, P9.11: texts of faults.
func TestFaultTexts(t *testing.T) {
	for _, c := range []struct {
		f    api.EngineFault
		text string
	}{
		{fault(3, 1), "3 1"}, {fault(0, 0), "0 0"}, {fault(-5, 10), "-5 10"}, {fault(999999, -999999), "999999 -999999"}, {fault(23, 16), "23 16"},
	} {
		if s := engine.FormatFault(c.f); s != c.text {
			t.Errorf("FormatFault of %v: %q", c.f, s)
		}
		f, e := engine.ParseFault(c.text)
		wantSame(t, "ParseFault of "+c.text, f, e, c.f, api.OK)
	}
	if s := engine.FormatFault(fault(leastInt, greatestInt)); s != "-9223372036854775808 9223372036854775807" {
		t.Errorf("FormatFault of great numbers: %q", s)
	}
	for _, s := range []string{
		"", " ", "3", "3 ", " 3", "3 1 ", " 3 1", "3  1", "3\t1", "3 1 2", "3,1", "3 1\n", "x 1", "3 x", "03 1", "3 01", "+3 1", "3 +1", "-0 1", "3 -0", "--3 1",
		"1000000 1", "3 1000000", "-1000000 1", "3 -1000000", "3. 1", "0x3 1", "1_0 1", "3 1e1", "- 1", "3 -", "00 0", "9223372036854775808 1", "٣ 1",
	} {
		f, e := engine.ParseFault(s)
		wantWrong(t, "ParseFault of "+s, f, e, api.ErrSyntax)
	}
}
