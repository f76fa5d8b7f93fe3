package filter_test

import (
	"math/rand"
	"testing"

	"shoebox/api"
	"shoebox/filter"
)

func cycle(from, length int) api.FilterCycle { return api.FilterCycle{From: from, Length: length} }

// P6.5: from which step on last outputs come again, and behind how many.
func TestCycleOf(t *testing.T) {
	for _, c := range []struct {
		s    api.FilterSection
		y    [2]int
		want api.FilterCycle
	}{
		{half(), [2]int{1, 0}, cycle(1, 1)}, {half(), [2]int{1, 1}, cycle(0, 1)}, {half(), [2]int{0, 0}, cycle(0, 1)}, {half(), [2]int{2, 1}, cycle(2, 1)},
		{half(), [2]int{-1, 5}, cycle(2, 1)}, {half(), [2]int{0, 1}, cycle(1, 1)}, {half(), [2]int{100, 0}, cycle(8, 1)},
		{pass(), [2]int{7, 8}, cycle(2, 1)}, {pass(), [2]int{0, 8}, cycle(1, 1)}, {pass(), [2]int{7, 0}, cycle(2, 1)}, {pass(), [2]int{0, 0}, cycle(0, 1)},
		{fed(0, one), [2]int{3, 5}, cycle(0, 4)}, {fed(one, 0), [2]int{3, 5}, cycle(1, 2)}, {fed(one, 0), [2]int{3, -3}, cycle(0, 2)},
		{fed(-one, 0), [2]int{3, 5}, cycle(1, 1)}, {fed(-2*one, 0), [2]int{1, 0}, cycle(16, 1)}, {fed(2*one, 0), [2]int{1, 0}, cycle(16, 2)},
		{fed(0, -one), [2]int{3, 5}, cycle(0, 2)}, {fed(-one, one), [2]int{1, 0}, cycle(0, 6)}, {fed(one, one), [2]int{1, 0}, cycle(0, 3)},
		{fed(one/2, 0), [2]int{1, 0}, cycle(2, 1)}, {fed(one, 0), [2]int{loud, -loud}, cycle(0, 2)},
	} {
		for _, s := range []api.FilterSection{c.s, section(mostPart, -mostPart, 77, c.s.A[0], c.s.A[1])} { // B does not count
			k, e := filter.CycleOf(s, c.y)
			wantSame(t, "CycleOf", k, e, c.want, api.OK)
		}
	}
}

// P6.5: the errors of last outputs.
func TestCycleErrors(t *testing.T) {
	for _, n := range list(loud+1, -loud-1, leastInt, greatestInt) {
		for _, y := range [][2]int{{n, 0}, {0, n}, {n, n}} {
			k, e := filter.CycleOf(half(), y)
			wantWrong(t, "CycleOf", k, e, api.ErrRange)
		}
	}
	for _, y := range [][2]int{{loud, -loud}, {-loud, loud}} {
		_, e := filter.CycleOf(half(), y)
		wantSame(t, "CycleOf", 0, e, 0, api.OK)
	}
}

// repeatsAt is the first step at which something has come again.
func repeatsAt(k api.FilterCycle) int { return k.From + k.Length }

// P6.5: last outputs that come again at the step 1000 are found, and later ones are not.
func TestLongCycles(t *testing.T) {
	for _, c := range []struct {
		a0   int
		y    [2]int
		step int
	}{
		{17614, [2]int{196, 44}, 999}, {-19402, [2]int{-787, -1804}, 999}, {15119, [2]int{-1358, -565}, 999},
		{-9930, [2]int{-1377, 1285}, 1000}, {-8748, [2]int{-113, -255}, 1000}, {31227, [2]int{870, -1574}, 1000},
		{-8588, [2]int{969, -1072}, 1001}, {26702, [2]int{128, -1937}, 1001}, {7692, [2]int{1817, -1687}, 1001},
	} {
		s := fed(c.a0, one)
		wantSame(t, "first repeat", firstRepeat(s, c.y, 2000), 0, c.step, 0)
		want, ok := slowCycle(s, c.y)
		wantSame(t, "closes", ok, 0, c.step <= 1000, 0)
		k, e := filter.CycleOf(s, c.y)
		wantSame(t, "CycleOf", k, e, want, choose(ok, api.OK, api.ErrLarge))
	}
}

// P6.5: sections at the edge go round for a long time.
func TestCyclesAtTheEdge(t *testing.T) {
	found := map[bool]int{}
	for a0 := 2*one - 200; a0 <= 2*one; a0++ {
		for _, y := range [][2]int{{1, 0}, {10, 0}, {100, 90}, {200, -200}, {1000, 0}, {3000, -2990}} {
			for _, s := range []api.FilterSection{fed(a0, one), fed(-a0, one)} {
				k, e := filter.CycleOf(s, y)
				found[e == api.OK]++
				if step := firstRepeat(s, y, 1001); step <= 1000 {
					wantSame(t, "CycleOf", k.From+k.Length, e, step, api.OK)
				} else {
					wantWrong(t, "CycleOf", k, e, api.ErrLarge)
				}
			}
		}
	}
	if found[true] < 100 || found[false] < 100 {
		t.Errorf("found and not found: %v", found)
	}
}

// firstRepeat is the first step at which last outputs were there before; more than a number of steps, if there is none up to it.
func firstRepeat(s api.FilterSection, y [2]int, steps int) int {
	seen := map[[2]int]bool{}
	for step := range steps + 1 {
		if seen[y] {
			return step
		}
		seen[y] = true
		sum := -s.A[0]*y[0] - s.A[1]*y[1] + one/2
		next := (sum - ((sum%one)+one)%one) / one
		y = [2]int{max(-loud, min(loud, next)), y[0]}
	}
	return steps + 1
}

// P6.5, P6.11: the same as in a list of all outputs; from From on they repeat themselves, and not sooner.
func TestCyclesSlowly(t *testing.T) {
	r := rand.New(rand.NewSource(612))
	count := map[api.Errno]int{}
	for range 60 {
		s := anyOf(r, anySection, anyStable, anyTame)(r)
		y := [2]int{anySample(r), anySample(r)}
		want, ok := slowCycle(s, y)
		k, e := filter.CycleOf(s, y)
		wantSame(t, "CycleOf", k, e, want, choose(ok, api.OK, api.ErrLarge))
		count[e]++
	}
	if count[api.OK] < 20 || count[api.ErrLarge] < 1 {
		t.Errorf("cycles: %v", count)
	}
}

// P6.11: with A of 0 the cycle is 0, 0, and of length 1.
func TestCycleWithoutMemory(t *testing.T) {
	r := rand.New(rand.NewSource(613))
	for range 100 {
		s := section(anyPart(r), anyPart(r), anyPart(r), 0, 0)
		y := [2]int{anySample(r), anySample(r)}
		from := 2
		if y[0] == 0 {
			from = choose(y[1] == 0, 0, 1)
		}
		k, e := filter.CycleOf(s, y)
		wantSame(t, "CycleOf", k, e, cycle(from, 1), api.OK)
	}
}
