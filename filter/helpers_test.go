package filter_test

import (
	"math"
	"math/rand"
	"slices"
	"testing"

	"shoebox/api"
)

const (
	leastInt    = -1 << 63
	greatestInt = 1<<63 - 1
	one         = 16384      // what stands for the coefficient 1
	loud        = 32767      // the greatest sample
	mostPart    = 32768      // the greatest coefficient
	billion     = 1000000000 // the greatest number of a fraction
	mostSamples = 1024
)

func nan() float32       { return float32(math.NaN()) }
func endless() float32   { return float32(math.Inf(1)) }
func minusZero() float32 { return float32(math.Copysign(0, -1)) }

func list(l ...int) []int { return l }

func samples(l ...float32) []float32 { return l }

func frac(num, den int) api.Frac { return api.Frac{Num: num, Den: den} }

func turn(p, q, r int) api.FilterTurn { return api.FilterTurn{P: p, Q: q, R: r} }

func section(b0, b1, b2, a0, a1 int) api.FilterSection {
	return api.FilterSection{B: [3]int{b0, b1, b2}, A: [2]int{a0, a1}}
}

// fed is a section without an input of its own: only what it gave before counts.
func fed(a0, a1 int) api.FilterSection { return section(0, 0, 0, a0, a1) }

// half is the section of the examples: half the input and half the last output.
func half() api.FilterSection { return section(8192, 0, 0, -8192, 0) }

// pass is a section that changes nothing, double one that gives twice the input.
func pass() api.FilterSection   { return section(one, 0, 0, 0, 0) }
func double() api.FilterSection { return section(2*one, 0, 0, 0, 0) }

func cascade(l ...api.FilterSection) []api.FilterSection { return l }

func repeated(count int, s api.FilterSection) []api.FilterSection {
	return slices.Repeat(cascade(s), count)
}

func state(x0, x1, y0, y1 int) api.FilterState {
	return api.FilterState{X: [2]int{x0, x1}, Y: [2]int{y0, y1}}
}

func states(l ...api.FilterState) []api.FilterState { return l }

// wantSame tests a result and its error.
func wantSame[T comparable](t *testing.T, name string, got T, e api.Errno, want T, wrong api.Errno) {
	t.Helper()
	if got != want || e != wrong {
		t.Errorf("%s: %v, error %d, want %v, %d", name, got, e, want, wrong)
	}
}

// wantWrong tests an error, beside which there may be nothing.
func wantWrong[T comparable](t *testing.T, name string, got T, e, wrong api.Errno) {
	t.Helper()
	var nothing T
	wantSame(t, name, got, e, nothing, wrong)
}

// wantList tests a list that has no error.
func wantList[T comparable](t *testing.T, name string, got []T, e api.Errno, want ...T) {
	t.Helper()
	if !slices.Equal(got, want) || e != api.OK {
		t.Errorf("%s: %v, error %d, want %v", name, got, e, want)
	}
}

// wantPair tests two results and their error.
func wantPair[T, U comparable](t *testing.T, name string, a T, b U, e api.Errno, wantA T, wantB U, wrong api.Errno) {
	t.Helper()
	if a != wantA || b != wantB || e != wrong {
		t.Errorf("%s: %v, %v, error %d, want %v, %v, %d", name, a, b, e, wantA, wantB, wrong)
	}
}

// anyOf is one of some values.
func anyOf[T any](r *rand.Rand, l ...T) T { return l[r.Intn(len(l))] }

// between is a number of a range.
func between(r *rand.Rand, least, greatest int) int { return least + r.Intn(greatest-least+1) }

// anyPart is a coefficient, often a plain one or one at an edge.
func anyPart(r *rand.Rand) int {
	plain := anyOf(r, 0, 0, 1, one/2, one-1, one, one+1, mostPart-1, mostPart, r.Intn(100), r.Intn(one), r.Intn(mostPart+1))
	return anyOf(r, 1, -1) * plain
}

func anySection(r *rand.Rand) api.FilterSection {
	return section(anyPart(r), anyPart(r), anyPart(r), anyPart(r), anyPart(r))
}

// anyCascade has up to a number of sections, some of them stable and some not.
func anyCascade(r *rand.Rand, most int) []api.FilterSection {
	var c []api.FilterSection
	for range r.Intn(most + 1) {
		c = append(c, anyOf(r, anySection, anyStable)(r))
	}
	return c
}

// anyStable is a stable section, often one at the edge.
func anyStable(r *rand.Rand) api.FilterSection {
	a1 := anyOf(r, 0, one-1, 1-one, one/2, between(r, 1-one, one-1))
	edge := one + a1 - 1
	a0 := anyOf(r, 0, edge, -edge, between(r, -edge, edge))
	return section(anyPart(r), anyPart(r), anyPart(r), a0, a1)
}

// anySamples is whole samples up to a size, loud ones more often than others.
func anySamples(r *rand.Rand, count, size int) []float32 {
	var l []float32
	for range count {
		l = append(l, float32(anyOf(r, 0, size, -size, between(r, -size, size))))
	}
	return l
}

func anySample(r *rand.Rand) int { return anyOf(r, 0, 1, -1, loud, -loud, between(r, -loud, loud)) }

func anyState(r *rand.Rand) api.FilterState {
	return state(anySample(r), anySample(r), anySample(r), anySample(r))
}

func anyStates(r *rand.Rand, count int) []api.FilterState {
	var l []api.FilterState
	for range count {
		l = append(l, anyState(r))
	}
	return l
}

// turns is all turns with R up to a number.
func turns(most int) []api.FilterTurn {
	var l []api.FilterTurn
	for r := 1; r <= most; r++ {
		for p := -r; p <= r; p++ {
			for q := -r; q <= r; q++ {
				if p*p+q*q == r*r {
					l = append(l, turn(p, q, r))
				}
			}
		}
	}
	return l
}

func block(l ...float32) api.Block {
	var b api.Block
	copy(b[:], l)
	return b
}
