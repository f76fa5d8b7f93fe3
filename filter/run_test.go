package filter_test

import (
	"math/rand"
	"slices"
	"testing"

	"shoebox/api"
	"shoebox/filter"
)

// P6.5: the examples, and what rounding does above and below 0.
func TestImpulse(t *testing.T) {
	for _, c := range []struct {
		c      []api.FilterSection
		height int
		want   []int
	}{
		{cascade(half()), 100, list(50, 25, 13, 7, 4, 2, 1, 1, 1, 1)},
		{cascade(half()), -100, list(-50, -25, -12, -6, -3, -1, 0, 0)},
		{cascade(half()), 1, list(1, 1, 1)}, {cascade(half()), -1, list(0, 0, 0)},
		{cascade(section(0, one/2, 0, 0, 0)), 3, list(0, 2, 0)}, {cascade(section(0, 0, one, 0, 0)), 3, list(0, 0, 3, 0)},
		{cascade(section(one, -one, one/2, 0, 0)), loud, list(loud, -loud, 16384, 0)},
		{cascade(section(one, 0, 0, 0, one)), 7, list(7, 0, -7, 0, 7, 0, -7)}, {cascade(section(one, 0, 0, one, 0)), 7, list(7, -7, 7, -7)},
		{cascade(section(one, 0, 0, -2*one, 0)), 10000, list(10000, 20000, loud, loud, loud)},
		{cascade(section(one, 0, 0, 2*one, 0)), 10000, list(10000, -20000, loud, -loud, loud)},
		{cascade(section(one, 0, 0, 0, -one/2)), 100, list(100, 0, 50, 0, 25, 0, 13)},
		{nil, 9, list(9, 0, 0)}, {nil, -9, list()}, {nil, 0, list(0)}, {cascade(half()), 0, list(0, 0, 0, 0)},
		{cascade(section(8191, 0, 0, 0, 0)), 1, list(0)}, {cascade(section(8192, 0, 0, 0, 0)), 1, list(1)}, {cascade(section(-8192, 0, 0, 0, 0)), 1, list(0)},
		{cascade(section(-8193, 0, 0, 0, 0)), 1, list(-1)}, {cascade(section(-24576, 0, 0, 0, 0)), 1, list(-1)},
		{cascade(half(), half()), 100, list(25, 25, 19, 13, 9)},
		{cascade(section(0, one, 0, 0, 0), section(0, 0, one, 0, 0)), 5, list(0, 0, 0, 5, 0)},
	} {
		l, e := filter.Impulse(c.c, c.height, len(c.want))
		wantList(t, "Impulse", l, e, c.want...)
	}
}

// P6.5: the errors of Impulse.
func TestImpulseErrors(t *testing.T) {
	for _, n := range list(-1, mostSamples+1, leastInt, greatestInt) {
		l, e := filter.Impulse(cascade(half()), 1, n)
		wantSame(t, "Impulse of so many", len(l), e, 0, api.ErrRange)
		l, e = filter.Impulse(nil, 1, n)
		wantSame(t, "Impulse of so many of nothing", len(l), e, 0, api.ErrRange)
	}
	for _, height := range list(-loud-1, loud+1, leastInt, greatestInt) {
		for _, count := range list(0, 5, -1) {
			l, e := filter.Impulse(cascade(half()), height, count)
			wantSame(t, "Impulse so high", len(l), e, 0, api.ErrRange)
		}
	}
	for _, height := range list(-loud, loud) {
		l, e := filter.Impulse(cascade(pass()), height, mostSamples)
		wantSame(t, "Impulse", len(l), e, mostSamples, api.OK)
		wantSame(t, "Impulse", l[0], e, height, api.OK)
		l, e = filter.Impulse(cascade(pass()), height, 0)
		wantSame(t, "Impulse of none", len(l), e, 0, api.OK)
	}
}

// P6.5: outputs that are cut are counted, and are fed back as they were cut.
func TestCuts(t *testing.T) {
	for _, c := range []struct {
		c        []api.FilterSection
		in, want []float32
		cuts     int
	}{
		{cascade(double()), samples(20000, -20000, 3), samples(loud, -loud, 6), 2},
		{cascade(double()), samples(16383, 16384, -16384, -16383), samples(32766, loud, -loud, -32766), 2},
		{cascade(double(), double()), samples(20000, -10000, 8000), samples(loud, -loud, 32000), 3},
		{cascade(double(), section(one/2, 0, 0, 0, 0)), samples(20000, -20000), samples(16384, -16383), 2},
		{cascade(section(one, 0, 0, -2*one, 0)), samples(loud, 0, -loud, -loud), samples(loud, loud, loud, loud), 1},
		{cascade(section(one, 0, 0, -one, 0)), samples(loud, 1, -loud), samples(loud, loud, 0), 1},
		{cascade(pass()), samples(loud, -loud), samples(loud, -loud), 0},
		{cascade(section(one+1, 0, 0, 0, 0)), samples(loud, -loud, 8191, 8192), samples(loud, -loud, 8191, 8193), 2},
		{cascade(section(one, one, 0, 0, 0)), samples(loud, loud, 1, -1, -loud), samples(loud, loud, loud, 0, -loud), 3},
		{nil, samples(5, -7), samples(5, -7), 0},
		{nil, nil, nil, 0}, {cascade(half()), samples(), nil, 0},
	} {
		l, n, e := filter.RunAll(c.c, c.in)
		wantList(t, "RunAll", l, e, c.want...)
		wantSame(t, "cuts", n, e, c.cuts, api.OK)
		s, e := filter.NewState(c.c)
		wantSame(t, "NewState", len(s), e, len(c.c), api.OK)
		b, _, _, e := filter.Run(c.c, block(c.in...), s)
		wantList(t, "Run", b[:len(c.in)], e, c.want...)
	}
}

// P6.5: the states are 0 at first, one for each section.
func TestNewState(t *testing.T) {
	for count := range 7 {
		s, e := filter.NewState(repeated(count, double()))
		wantList(t, "NewState", s, e, make([]api.FilterState, count)...)
	}
}

// P6.5: the errors of states, with their numbers.
func TestCheckState(t *testing.T) {
	c := repeated(6, half())
	right := slices.Repeat(states(state(loud, -loud, -loud, loud)), 6)
	n, e := filter.CheckState(c, right)
	wantSame(t, "CheckState", n, e, 0, api.OK)
	n, e = filter.CheckState(nil, nil)
	wantSame(t, "CheckState of nothing", n, e, 0, api.OK)
	n, e = filter.CheckState(nil, []api.FilterState{})
	wantSame(t, "CheckState of nothing", n, e, 0, api.OK)
	for _, x := range list(loud+1, -loud-1, leastInt, greatestInt) {
		for at := range 6 {
			for _, wrong := range states(state(x, 0, 0, 0), state(0, x, 0, 0), state(0, 0, x, 0), state(0, 0, 0, x), state(x, x, x, x)) {
				s := slices.Clone(right)
				s[at], s[5] = wrong, wrong
				n, e := filter.CheckState(c, s)
				wantSame(t, "CheckState", n, e, at, api.ErrRange)
				b, l, n, e := filter.Run(c, api.Block{5}, s)
				wantPair(t, "Run", b, n+len(l), e, api.Block{}, 0, api.ErrRange)
				n, e = filter.CheckState(c[1:], s)
				wantSame(t, "CheckState of too many", n, e, 0, api.ErrShape)
			}
		}
	}
	for _, s := range [][]api.FilterState{nil, right[:5], append(slices.Clone(right), right[0])} {
		n, e := filter.CheckState(c, s)
		wantSame(t, "CheckState of others", n, e, 0, api.ErrShape)
		b, l, n, e := filter.Run(c, api.Block{5}, s)
		wantPair(t, "Run", b, n+len(l), e, api.Block{}, 0, api.ErrShape)
	}
	n, e = filter.CheckState(nil, right[:1])
	wantSame(t, "CheckState of a state without a section", n, e, 0, api.ErrShape)
}

// wrongSamples is what is no sample, and why.
func wrongSamples() map[api.Errno][]float32 {
	return map[api.Errno][]float32{
		api.ErrWhole: {0.5, -0.5, nan(), endless(), -endless(), 32766.5, -32766.5, 1e-40, 8388607.5},
		api.ErrRange: {loud + 1, -loud - 1, 1e30, -1e30, 8388608},
	}
}

// P6.5: the samples are looked at one by one.
func TestSampleErrors(t *testing.T) {
	c := cascade(half(), pass())
	s, _ := filter.NewState(c)
	for want, l := range wrongSamples() {
		for _, x := range l {
			for _, at := range list(0, 1, 30, 31) {
				b := block(loud, -loud)
				b[at] = x
				if at < 31 { // the first one decides
					b[31] = choose[float32](want == api.ErrRange, 0.5, loud+1)
				}
				for _, with := range [][]api.FilterState{s, nil, states(state(loud+1, 0, 0, 0))} { // and ahead of the states
					out, behind, n, e := filter.Run(c, b, with)
					wantPair(t, "Run", out, n+len(behind), e, api.Block{}, 0, want)
				}
				all, n, e := filter.RunAll(c, b[:])
				wantPair(t, "RunAll", len(all), n, e, 0, 0, want)
				all, n, e = filter.RunAll(nil, b[:at+1])
				wantPair(t, "RunAll without sections", len(all), n, e, 0, 0, want)
			}
		}
	}
}

// P6.5: a list may have MaxResponse samples; that it has more is told ahead of what they are.
func TestLongLists(t *testing.T) {
	l := slices.Repeat(samples(20000), mostSamples)
	out, n, e := filter.RunAll(repeated(6, double()), l)
	wantPair(t, "RunAll", len(out), n, e, mostSamples, 6*mostSamples, api.OK)
	for _, x := range samples(1, 0.5, loud+1) {
		out, n, e = filter.RunAll(cascade(half()), append(slices.Clone(l), x))
		wantPair(t, "RunAll of too many", len(out), n, e, 0, 0, api.ErrLarge)
	}
	l[5] = nan()
	out, n, e = filter.RunAll(cascade(half()), append(l, 1))
	wantPair(t, "RunAll of too many", len(out), n, e, 0, 0, api.ErrLarge)
}

// P6.5: an error of the cascade comes ahead of those of lists and heights.
func TestCascadeFirst(t *testing.T) {
	long := make([]float32, mostSamples+1)
	out, n, e := filter.RunAll(cascade(fed(mostPart+1, 0)), long)
	wantPair(t, "RunAll", len(out), n, e, 0, 0, api.ErrRange)
	out, n, e = filter.RunAll(repeated(7, pass()), samples(nan()))
	wantPair(t, "RunAll", len(out), n, e, 0, 0, api.ErrLarge)
	l, e := filter.Impulse(repeated(7, pass()), loud+1, 5)
	wantSame(t, "Impulse", len(l), e, 0, api.ErrLarge)
	l, e = filter.Impulse(repeated(7, pass()), 5, mostSamples+1)
	wantSame(t, "Impulse", len(l), e, 0, api.ErrLarge)
	b, s, n, e := filter.Run(repeated(7, pass()), block(0.5), nil)
	wantPair(t, "Run", b, n+len(s), e, api.Block{}, 0, api.ErrLarge)
}

// P6.5: the outputs of a block, and the states behind it.
func TestRun(t *testing.T) {
	want := block(50, 25, 13, 7, 4, 2)
	for i := 6; i < 32; i++ {
		want[i] = 1
	}
	b, s, n, e := filter.Run(cascade(half()), block(100), states(state(0, 0, 0, 0)))
	wantPair(t, "Run", b, n, e, want, 0, api.OK)
	wantList(t, "states", s, e, state(0, 0, 1, 1))
	ramp := api.Block{}
	for i := range ramp {
		ramp[i] = float32(i + 1)
	}
	b, s, n, e = filter.Run(cascade(pass(), section(0, one, 0, 0, 0), section(0, 0, one, 0, 0)), ramp, states(state(9, 8, 7, 6), state(5, 4, 3, 2), state(-1, -2, -3, -4)))
	want = block(-2, -1, 5)
	for i := 3; i < 32; i++ {
		want[i] = float32(i - 2)
	}
	wantPair(t, "Run", b, n, e, want, 0, api.OK)
	wantList(t, "states", s, e, state(32, 31, 32, 31), state(32, 31, 31, 30), state(31, 30, 29, 28))
	b, s, n, e = filter.Run(nil, ramp, nil)
	wantPair(t, "Run without sections", b, n+len(s), e, ramp, 0, api.OK)
}

// P6.5: the same as section by section in fractions, from any states on.
func TestRunSlowly(t *testing.T) {
	r := rand.New(rand.NewSource(67))
	all := 0
	for range 150 {
		c := anyCascade(r, 6)
		s := anyStates(r, len(c))
		in := block(anySamples(r, api.BlockSize, anyOf(r, 3, 1000, loud))...)
		want, behind, cuts := slowRun(c, in[:], s)
		b, next, n, e := filter.Run(c, in, s)
		wantPair(t, "Run", b, n, e, api.Block(want), cuts, api.OK)
		wantList(t, "states", next, e, behind...)
		all += cuts
		l := anySamples(r, r.Intn(50), anyOf(r, 3, 1000, loud))
		want, _, cuts = slowRun(c, l, make([]api.FilterState, len(c)))
		out, n, e := filter.RunAll(c, l)
		wantList(t, "RunAll", out, e, want...)
		wantSame(t, "cuts", n, e, cuts, api.OK)
		height, count := anySample(r), r.Intn(40)
		impulse := slices.Concat(samples(float32(height)), make([]float32, 40))[:count]
		want, _, _ = slowRun(c, impulse, make([]api.FilterState, len(c)))
		first, e := filter.Impulse(c, height, count)
		for i, y := range first {
			wantSame(t, "Impulse", float32(y), e, want[i], api.OK)
		}
		wantSame(t, "Impulse", len(first), e, count, api.OK)
	}
	if all < 100 {
		t.Errorf("only %d outputs were cut", all)
	}
}

// P6.10: block after block tells what RunAll tells of all samples.
func TestBlockAfterBlock(t *testing.T) {
	r := rand.New(rand.NewSource(610))
	for range 60 {
		c := anyCascade(r, 6)
		l := anySamples(r, api.BlockSize*between(r, 1, 8), anyOf(r, 3, 1000, loud))
		want, cuts, e := filter.RunAll(c, l)
		wantSame(t, "RunAll", len(want), e, len(l), api.OK)
		s, e := filter.NewState(c)
		var out []float32
		count := 0
		for rest := l; len(rest) > 0; rest = rest[api.BlockSize:] {
			b, next, n, wrong := filter.Run(c, api.Block(rest), s)
			e = max(e, wrong)
			out, s, count = append(out, b[:]...), next, count+n
			_, wrong = filter.CheckState(c, s)
			e = max(e, wrong)
		}
		wantList(t, "all blocks", out, e, want...)
		wantSame(t, "their cuts", count, e, cuts, api.OK)
	}
}

// P6.10: two cascades one behind the other are the joined cascade.
func TestJoinedCascades(t *testing.T) {
	r := rand.New(rand.NewSource(611))
	for range 200 {
		c, d := anyCascade(r, 3), anyCascade(r, 3)
		l := anySamples(r, r.Intn(100), anyOf(r, 3, 1000, loud))
		first, n, _ := filter.RunAll(c, l)
		second, m, _ := filter.RunAll(d, first)
		out, both, e := filter.RunAll(slices.Concat(c, d), l)
		wantList(t, "joined", out, e, second...)
		wantSame(t, "their cuts", both, e, n+m, api.OK)
		same, cuts, e := filter.RunAll(nil, l)
		wantList(t, "nothing", same, e, l...)
		wantSame(t, "its cuts", cuts, e, 0, api.OK)
	}
}
