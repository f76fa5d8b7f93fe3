package engine_test

import (
	"fmt"
	"math"
	"math/rand"
	"slices"
	"strconv"
	"testing"

	"shoebox/api"
)

const (
	leastInt    = -1 << 63
	greatestInt = 1<<63 - 1
	one         = 16384 // what stands for the coefficient 1
	loud        = 32767 // the greatest sample
	mostDelay   = 64
	mostGain    = 4000
	mostBlocks  = 16
	mostUnits   = 24
	past        = 128 // samples that a state keeps
	size        = 32  // samples of a block
	nobody      = -1
)

func nan() float32       { return float32(math.NaN()) }
func endless() float32   { return float32(math.Inf(1)) }
func minusZero() float32 { return float32(math.Copysign(0, -1)) }

func list(l ...int) []int { return l }

func rows(l ...[]int) [][]int { return l }

// taken is what a sum takes: the unit, the alignment, the gain.
type taken struct{ from, align, gain int }

func input() api.EngineUnit { return api.EngineUnit{Kind: api.UnitInput, Stand: nobody} }

func sum(l ...taken) api.EngineUnit {
	u := api.EngineUnit{Kind: api.UnitSum, Stand: nobody}
	for _, x := range l {
		u.From, u.Align, u.Gains = append(u.From, x.from), append(u.Align, x.align), append(u.Gains, x.gain)
	}
	return u
}

// single is a unit that takes from another one.
func single(kind, from, align int) api.EngineUnit {
	return api.EngineUnit{Kind: kind, From: list(from), Align: list(align), Stand: nobody}
}

func delay(from, align, by int) api.EngineUnit {
	u := single(api.UnitDelay, from, align)
	u.Delay = by
	return u
}

func filtered(from, align int, c ...api.FilterSection) api.EngineUnit {
	u := single(api.UnitFilter, from, align)
	u.Cascade = c
	return u
}

func output(from, align int) api.EngineUnit { return single(api.UnitOutput, from, align) }

// behind is a unit that has another one to stand in for it.
func behind(stand int, u api.EngineUnit) api.EngineUnit {
	u.Stand = stand
	return u
}

// named is a unit with a name of its own.
func named(name string, u api.EngineUnit) api.EngineUnit {
	u.Name = name
	return u
}

// graphOf is a graph; units without names get the letters from a on, and then u26 and so on.
func graphOf(units ...api.EngineUnit) api.EngineGraph {
	g := api.EngineGraph{Name: "g"}
	for i, u := range units {
		if u.Name == "" && i < 26 {
			u.Name = string(rune('a' + i))
		} else if u.Name == "" {
			u.Name = "u" + strconv.Itoa(i)
		}
		g.Units = append(g.Units, u)
	}
	return g
}

// plain is the graph of the examples.
func plain() api.EngineGraph {
	g := graphOf(
		named("mic", input()),
		named("d", delay(0, 0, 3)),
		named("mix", sum(taken{0, 0, 500}, taken{1, 0, 1000})),
		named("out", output(2, 0)),
	)
	g.Name = "p"
	return g
}

// covered is the graph of the examples with a stand-in for the delay.
func covered() api.EngineGraph {
	g := plain()
	g.Units[1].Stand = 0
	return g
}

func section(b0, b1, b2, a0, a1 int) api.FilterSection {
	return api.FilterSection{B: [3]int{b0, b1, b2}, A: [2]int{a0, a1}}
}

// half is a section that gives half the input and half the last output.
func half() api.FilterSection { return section(one/2, 0, 0, -one/2, 0) }

func double() api.FilterSection { return section(2*one, 0, 0, 0, 0) }

func block(l ...float32) api.Block {
	var b api.Block
	copy(b[:], l)
	return b
}

// constant is a block of the same sample everywhere, from a time on.
func constant(x float32, from int) api.Block {
	var b api.Block
	for t := from; t < size; t++ {
		b[t] = x
	}
	return b
}

func blocks(l ...api.Block) []api.Block { return l }

func tape(l ...[]api.Block) [][]api.Block { return l }

// silence is so many blocks of zeros.
func silence(count int) []api.Block { return make([]api.Block, count) }

func fault(unit, block int) api.EngineFault { return api.EngineFault{Unit: unit, Block: block} }

func faults(l ...api.EngineFault) []api.EngineFault { return l }

// textOf is the same for results that are alike: for nil and empty lists, but not for 0 and -0.
func textOf(x any) string { return fmt.Sprintf("%+v", x) }

// wantSame tests a result and its error.
func wantSame[T any](t *testing.T, name string, got T, e api.Errno, want T, wrong api.Errno) {
	t.Helper()
	if textOf(got) != textOf(want) || e != wrong {
		t.Errorf("%s: %+v, error %d, want %+v, %d", name, got, e, want, wrong)
	}
}

// wantWrong tests an error, beside which there may be nothing.
func wantWrong[T any](t *testing.T, name string, got T, e, wrong api.Errno) {
	t.Helper()
	var nothing T
	wantSame(t, name, got, e, nothing, wrong)
}

// wantErrno tests an error.
func wantErrno(t *testing.T, name string, e, want api.Errno) {
	t.Helper()
	if e != want {
		t.Errorf("%s: error %d, want %d", name, e, want)
	}
}

// played is what Run and Dealt return, beside an error.
type played struct {
	out  [][]api.Block
	cuts int
}

// anyOf is one of some values.
func anyOf[T any](r *rand.Rand, l ...T) T { return l[r.Intn(len(l))] }

// between is a number of a range.
func between(r *rand.Rand, least, greatest int) int { return least + r.Intn(greatest-least+1) }

// anyDelay is a delay or an alignment, often 0, sometimes the greatest one.
func anyDelay(r *rand.Rand) int { return anyOf(r, 0, 0, 0, 1, between(r, 0, 9), mostDelay) }

func anyGain(r *rand.Rand) int {
	return anyOf(r, 0, 1, -1, 500, 1000, -1000, mostGain, -mostGain, between(r, -mostGain, mostGain))
}

func anySections(r *rand.Rand) []api.FilterSection {
	l := []api.FilterSection{half(), double(), section(one, one/2, -one, 3000, -9000), section(0, 0, one, 0, 0), section(-one, 0, 0, one, one/2)}
	r.Shuffle(len(l), func(i, j int) { l[i], l[j] = l[j], l[i] })
	return l[:r.Intn(3)]
}

// anyUnit is a unit that takes from some that are there.
func anyUnit(r *rand.Rand, there []int) api.EngineUnit {
	from := anyOf(r, there...)
	switch r.Intn(7) {
	case 0:
		return input()
	case 1:
		return delay(from, anyDelay(r), anyDelay(r))
	case 2:
		return filtered(from, anyDelay(r), anySections(r)...)
	case 3:
		return output(from, anyDelay(r))
	}
	var l []taken
	for _, i := range r.Perm(len(there))[:between(r, 1, min(6, len(there)))] {
		l = append(l, taken{there[i], anyDelay(r), anyGain(r)})
	}
	return sum(l...)
}

// anyGraph is a right graph without a circle, with up to a number of units; their numbers are in no order.
func anyGraph(r *rand.Rand, most int) api.EngineGraph {
	numbers := r.Perm(between(r, 1, most))
	units := make([]api.EngineUnit, len(numbers))
	for i, n := range numbers {
		there := numbers[:i]
		if i == 0 {
			units[n] = input()
			continue
		}
		units[n] = anyUnit(r, there)
		if r.Intn(2) == 0 {
			units[n].Stand = anyOf(r, there...)
		}
	}
	return graphOf(units...)
}

// anySample is a whole sample; -0, which counts as 0, is one of them.
func anySample(r *rand.Rand) float32 {
	return anyOf(r, 0, minusZero(), 1, -1, loud, -loud, float32(between(r, -loud, loud)))
}

func anyBlock(r *rand.Rand) api.Block {
	var b api.Block
	for t := range b {
		b[t] = anySample(r)
	}
	return b
}

// countOf is how many units of a kind there are.
func countOf(g api.EngineGraph, kind int) int {
	n := 0
	for _, u := range g.Units {
		if u.Kind == kind {
			n++
		}
	}
	return n
}

// anyTape has some blocks for each input of a graph.
func anyTape(r *rand.Rand, g api.EngineGraph, count int) [][]api.Block {
	var in [][]api.Block
	for range countOf(g, api.UnitInput) {
		var l []api.Block
		for range count {
			l = append(l, anyBlock(r))
		}
		in = append(in, l)
	}
	return in
}

// anyFaults is right faults of a graph.
func anyFaults(r *rand.Rand, g api.EngineGraph, lastBlock int) []api.EngineFault {
	var l []api.EngineFault
	numbers := r.Perm(len(g.Units))
	for _, unit := range numbers[:r.Intn(len(numbers)+1)] {
		l = append(l, fault(unit, between(r, 0, lastBlock)))
	}
	return l
}

// anyDeal deals the units of a graph out to some workers, some of which may have none.
func anyDeal(r *rand.Rand, g api.EngineGraph) [][]int {
	deal := make([][]int, between(r, 1, 8))
	for _, unit := range r.Perm(len(g.Units)) {
		i := r.Intn(len(deal))
		deal[i] = append(deal[i], unit)
	}
	return deal
}

// permutations calls a function with each order of so many numbers, lexicographically.
func permutations(count int, see func(l []int)) {
	var extend func(l []int)
	extend = func(l []int) {
		if len(l) == count {
			see(slices.Clone(l))
			return
		}
		for n := range count {
			if !slices.Contains(l, n) {
				extend(append(l, n))
			}
		}
	}
	extend(nil)
}
