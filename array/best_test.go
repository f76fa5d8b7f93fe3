package array_test

import (
	"math/big"
	"math/rand"
	"slices"
	"testing"

	"shoebox/api"
	"shoebox/array"
)

// P7.4: the best values of some tasks, with the edges.
func TestBestOpen(t *testing.T) {
	for _, c := range []struct {
		x    api.ArrayTask
		want [2]int
	}{
		{two(), [2]int{2, 1}}, {half(), [2]int{1, 2}}, {task(9, list(0), list(1)), [2]int{0, 1}}, {task(0, list(0)), [2]int{0, 1}}, {task(1000, list(0, 0, 0)), [2]int{0, 1}},
		{task(1000, list(100, 100, 100)), [2]int{300, 1}}, {task(299, list(100, 100, 100)), [2]int{299, 1}}, {task(300, list(100, 100, 100)), [2]int{300, 1}},
		{task(0, list(100, 100, 100), list(1, 1, 1)), [2]int{0, 1}}, {task(0, list(0, 5), list(0, 5)), [2]int{0, 1}}, {task(1, list(100)), [2]int{1, 1}}, {task(1, list(100), list(99)), [2]int{99, 100}},
		{task(1000, list(1)), [2]int{1, 1}}, {task(3, list(1, 2), list(2, 1)), [2]int{3, 1}}, {task(1000, list(3, 1), list(1, 2)), [2]int{3, 1}},
		{task(100, list(100, 0, 0), list(0, 100, 0), list(0, 0, 100), list(100, 100, 100)), [2]int{100, 3}}, {task(2, list(4, 0), list(1, 2)), [2]int{2, 1}},
		{task(1, list(2, 1), list(1, 3), list(0, 0)), [2]int{0, 1}}, {task(10, list(7), list(7), list(7), list(7)), [2]int{7, 1}}, {task(6, list(7), list(7), list(7), list(7)), [2]int{6, 1}},
		{task(10, list(9, 1, 5), list(1, 9, 5), list(5, 5, 9), list(9, 9, 1)), [2]int{150, 19}}, {task(10, list(10, 2, 0), list(0, 10, 1), list(3, 0, 10)), [2]int{10, 1}},
		{task(100, list(100, 0, 50), list(0, 100, 50), list(100, 100, 0)), [2]int{100, 1}},
	} {
		_, _, v, e := array.BestOpen(c.x)
		wantSame(t, "BestOpen", v, e, c.want, api.OK)
		wantBest(t, c.x)
	}
}

// wantBest tests that what is open has the value, and that the weights prove that none is greater: both told by slow answers, and by the functions that check them.
func wantBest(t *testing.T, x api.ArrayTask) [2]int {
	t.Helper()
	o, w, v, e := array.BestOpen(x)
	if e != api.OK || len(o.Open) != len(x.Table[0]) || len(w.Caps) != len(x.Table[0]) || len(w.Low) != len(x.Table) || len(w.High) != len(x.Table) {
		t.Fatalf("%v: %v, %v, error %d", x, o, w, e)
	}
	value, isAccepted := slowValue(x, o)
	bound, areRight := slowBound(x, w)
	isIn := slices.Min(o.Open) >= 0 && slices.Max(o.Open) <= o.Den && slices.Min(slices.Concat(w.Low, w.High, w.Caps)) >= 0
	if !isIn || !isAccepted || !areRight || inTwo(value) != v || inTwo(bound) != v {
		t.Errorf("%v: %v, %v, value %v", x, o, w, v)
	}
	got, e := array.CheckOpen(x, o)
	wantSame(t, "CheckOpen", got, e, v, api.OK)
	got, e = array.CheckWeights(x, w)
	wantSame(t, "CheckWeights", got, e, v, api.OK)
	return v
}

// P7.4, P7.9: what is best is accepted, and its value is the bound of its weights.
func TestBestIsProved(t *testing.T) {
	r := rand.New(rand.NewSource(79))
	broken := 0
	for range 5000 {
		if v := wantBest(t, anyTask(r)); v[1] > 1 {
			broken++
		}
	}
	if broken < 200 {
		t.Errorf("only %d values were no whole numbers", broken)
	}
}

// P7.4: all small tables.
func TestBestOfSmallTables(t *testing.T) {
	for number := range 3 * 3 * 3 * 3 * 3 * 3 {
		var l []int
		for n := number; len(l) < 6; n /= 3 {
			l = append(l, n%3)
		}
		for most := range 4 {
			wantBest(t, task(most, l[:3], l[3:]))
			wantBest(t, task(most, l[:2], l[2:4], l[4:]))
			wantBest(t, task(most, l[:1], l[1:2], l[2:3], l[3:4]))
		}
	}
}

// P7.9: a level is reached just if the best value is at least it; otherwise the weights prove that it is not.
func TestReaches(t *testing.T) {
	r := rand.New(rand.NewSource(791))
	for _, x := range []api.ArrayTask{two(), half(), task(0, list(0)), task(1000, list(100, 100, 100)), anyTask(r), anyTask(r), anyTask(r), anyTask(r)} {
		_, w, v, _ := array.BestOpen(x)
		for _, level := range list(0, 1, 2, 3, v[0]/v[1], v[0]/v[1]+1, 299, 300, 301, 999, 1000) {
			want := level*v[1] <= v[0]
			is, e := array.Reaches(x, level)
			wantSame(t, "Reaches", is, e, want, api.OK)
			wrong := api.OK
			if want {
				wrong = api.ErrProof
			}
			wantSame(t, "CannotReach", 0, array.CannotReach(x, level, w), 0, wrong)
		}
	}
	for _, level := range list(-1, 1001, greatestInt, leastInt) {
		is, e := array.Reaches(two(), level)
		wantWrong(t, "Reaches", is, e, api.ErrRange)
	}
}

// P7.9: nothing that is accepted has a value above the bound of right weights.
func TestBoundsHold(t *testing.T) {
	r := rand.New(rand.NewSource(792))
	tested, met := 0, 0
	for range 20000 {
		x := anyTask(r)
		w := anyWeights(r, x)
		bound, e := array.CheckWeights(x, w)
		value, f := array.CheckOpen(x, anyOpen(r, x))
		if e != api.OK || f != api.OK {
			continue
		}
		tested++
		switch rat(value[0], value[1]).Cmp(rat(bound[0], bound[1])) {
		case 1:
			t.Errorf("%v, %v: value %v, bound %v", x, w, value, bound)
		case 0:
			met++
		}
	}
	if tested < 1000 || met < 10 {
		t.Errorf("%d tested, %d met", tested, met)
	}
}

// P7.9: with a greater cap the best value is not less.
func TestGreaterCaps(t *testing.T) {
	r := rand.New(rand.NewSource(793))
	for range 300 {
		x := anyTask(r)
		last := new(big.Rat)
		for _, most := range list(0, 1, 2, 5, 17, 50, 100, 101, 200, 300, 1000) {
			x.Cap = most
			_, _, v, e := array.BestOpen(x)
			next := rat(v[0], v[1])
			if next.Cmp(last) < 0 || next.Cmp(rat(most, 1)) > 0 || e != api.OK {
				t.Errorf("%v: %v behind %v", x, next, last)
			}
			last = next
		}
	}
}

// P7.4: "More exactly": with the cap 0 the value is 0, and only loudspeakers whose columns are 0 may be open.
func TestCapOfNothing(t *testing.T) {
	r := rand.New(rand.NewSource(794))
	for range 500 {
		x := anyTask(r)
		x.Cap = 0
		o, _, v, e := array.BestOpen(x)
		wantSame(t, "BestOpen", v, e, [2]int{0, 1}, api.OK)
		for j, n := range o.Open {
			for _, row := range x.Table {
				if n > 0 && row[j] > 0 {
					t.Errorf("%v: open %v", x, o)
				}
			}
		}
	}
}
