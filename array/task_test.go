package array_test

import (
	"math/rand"
	"slices"
	"testing"

	"shoebox/api"
	"shoebox/array"
)

// wrongTask is a task with its error.
type wrongTask struct {
	task api.ArrayTask
	want api.Errno
}

func wrongTasks() []wrongTask {
	l := []wrongTask{
		{task(3), api.ErrShape}, {task(-1), api.ErrShape}, {api.ArrayTask{Table: [][]int{}}, api.ErrShape},
		{task(3, list()), api.ErrShape}, {task(3, nil), api.ErrShape}, {task(-1, list(), list(1)), api.ErrShape},
		{task(3, slices.Repeat(rows(list(1)), 5)...), api.ErrLarge}, {task(-1, slices.Repeat(rows(nil), 5)...), api.ErrLarge},
		{task(3, list(1, 2, 3, 4)), api.ErrLarge}, {task(-1, list(-1, 2, 3, 4), list()), api.ErrLarge}, {task(3, make([]int, 1000)), api.ErrLarge},
		{task(3, list(1, 2), list(1)), api.ErrShape}, {task(-1, list(1, 2), list(1, 2), nil), api.ErrShape}, {task(3, list(1), list(-1, 2)), api.ErrShape},
		{task(3, list(1, 2), list(1, 2), list(1, 2), list(1, 2, 3)), api.ErrShape}, {task(3, list(1), make([]int, 9)), api.ErrShape},
		// row by row
		{task(3, list(101), list(1, 2)), api.ErrRange}, {task(3, list(1), list(1, 2), list(101)), api.ErrShape},
	}
	for _, n := range list(-1, 101, greatestInt, leastInt) {
		l = append(l, wrongTask{task(3, list(n)), api.ErrRange}, wrongTask{task(3, list(0, n)), api.ErrRange}, wrongTask{task(3, list(0, 0, n)), api.ErrRange},
			wrongTask{task(-1, list(0), list(0), list(0), list(n)), api.ErrRange}, wrongTask{task(3, list(0, 1), list(0, n)), api.ErrRange})
	}
	for _, n := range list(-1, 1001, greatestInt, leastInt) {
		l = append(l, wrongTask{task(n, list(1)), api.ErrRange}, wrongTask{task(n, list(1, 2, 3), list(4, 5, 6)), api.ErrRange})
	}
	return l
}

// P7.4: right tasks with the edges, and wrong ones.
func TestCheckTask(t *testing.T) {
	for _, x := range []api.ArrayTask{
		two(), half(), task(0, list(0)), task(1000, list(100)), task(1000, slices.Repeat(rows(list(100, 0, 100)), 4)...), task(5, list(1, 2, 3), list(4, 5, 6), list(7, 8, 9)),
	} {
		wantSame(t, "CheckTask", 0, array.CheckTask(x), 0, api.OK)
	}
	for _, x := range wrongTasks() {
		wantSame(t, "CheckTask", 0, array.CheckTask(x.task), 0, x.want)
	}
}

// P7.4: what is open is accepted up to the cap, and has its value in lowest terms.
func TestCheckOpen(t *testing.T) {
	for _, c := range []struct {
		x    api.ArrayTask
		o    api.ArrayOpen
		want [2]int
	}{
		{two(), open(2, 2, 1), [2]int{2, 1}}, {two(), open(4, 4, 3), [2]int{2, 1}}, {two(), open(4, 3, 1), [2]int{1, 1}}, {two(), open(5, 1, 1), [2]int{2, 5}},
		{two(), open(7, 0, 5), [2]int{0, 1}}, {half(), open(2, 1), [2]int{1, 2}}, {half(), open(mostDen, mostDen/2), [2]int{1, 2}}, {half(), open(mostDen, 1), [2]int{1, mostDen}},
		{half(), open(mostDen-1, mostDen/2-1), [2]int{mostDen/2 - 1, mostDen - 1}}, {task(0, list(0, 1)), open(3, 3, 0), [2]int{0, 1}}, {task(1000, list(100, 100, 100)), open(1, 1, 1, 1), [2]int{300, 1}},
		{task(300, list(100, 100, 100)), open(mostDen, mostDen, mostDen, mostDen), [2]int{300, 1}}, {task(299, list(100, 100, 100)), open(mostDen, mostDen, mostDen, mostDen-mostDen/100), [2]int{299, 1}},
		{task(9, list(3), list(2), list(4)), open(6, 4), [2]int{4, 3}},
	} {
		v, e := array.CheckOpen(c.x, c.o)
		wantSame(t, "CheckOpen", v, e, c.want, api.OK)
	}
}

// P7.4: the errors of what is open, in their order.
func TestOpenErrors(t *testing.T) {
	wrong := func(x api.ArrayTask, o api.ArrayOpen, want api.Errno) {
		t.Helper()
		v, e := array.CheckOpen(x, o)
		wantWrong(t, "CheckOpen", v, e, want)
	}
	for _, den := range list(0, -1, mostDen+1, greatestInt, leastInt) {
		wrong(two(), open(den, 0, 0), api.ErrRange)
		wrong(two(), open(den), api.ErrRange)
		wrong(half(), open(den, 1, 2), api.ErrRange)
	}
	for _, l := range rows(nil, list(), list(1), list(1, 1, 1), list(-1), list(5, 5, 5)) {
		wrong(two(), open(2, l...), api.ErrShape)
	}
	for _, n := range list(-1, 3, greatestInt, leastInt) {
		wrong(two(), open(2, n, 0), api.ErrRange)
		wrong(two(), open(2, 0, n), api.ErrRange)
		wrong(two(), open(2, 2, n), api.ErrRange)
		wrong(task(0, list(0, 0, 0)), open(2, 0, 0, n), api.ErrRange)
		wrong(half(), open(2, n), api.ErrRange)
	}
	wrong(two(), open(1, 1, 1), api.ErrBreak)
	wrong(two(), open(mostDen, 0, mostDen/4*3+1), api.ErrBreak)
	wrong(half(), open(mostDen, mostDen/2+1), api.ErrBreak)
	wrong(task(299, list(100, 100, 100)), open(1, 1, 1, 1), api.ErrBreak)
	wrong(task(0, list(0, 1)), open(mostDen, 0, 1), api.ErrBreak)
	wrong(task(5, list(1), list(1), list(1), list(6)), open(1, 1), api.ErrBreak)
	wrong(task(5, list(6), list(1), list(1), list(1)), open(1, 1), api.ErrBreak)
}

// P7.4: right weights are accepted, and have their bound in lowest terms.
func TestCheckWeights(t *testing.T) {
	for _, c := range []struct {
		x    api.ArrayTask
		w    api.ArrayWeights
		want [2]int
	}{
		{two(), weightsOfTwo(), [2]int{2, 1}}, {half(), weightsOfHalf(), [2]int{1, 2}}, {two(), weights(2, list(2, 0), list(0, 0), list(4, 0)), [2]int{2, 1}},
		{two(), weights(3, list(2, 1), list(0, 0), list(4, 4)), [2]int{8, 3}}, {two(), weights(1, list(1, 0), list(0, 0), list(3, 1)), [2]int{4, 1}},
		{two(), weights(1, list(0, 1), list(0, 1), list(0, 0)), [2]int{3, 1}}, {two(), weights(1, list(1, 0), list(5, 6), list(0, 0)), [2]int{33, 1}},
		{half(), weights(4, list(0, 4), list(0, 0), list(4)), [2]int{1, 1}}, {task(0, list(0)), weights(1, list(1), list(0), list(0)), [2]int{0, 1}},
		{task(0, list(0)), weights(mostDen, list(mostDen), list(0), list(0)), [2]int{0, 1}}, {task(1000, list(0)), weights(1, list(1), list(mostDen), list(mostDen)), [2]int{1001 * mostDen, 1}},
		{task(1000, slices.Repeat(rows(list(0, 0, 0)), 4)...), weights(1, list(0, 0, 0, 1), list(mostDen, mostDen, mostDen, mostDen), list(mostDen, mostDen, mostDen)), [2]int{4003 * mostDen, 1}},
		{task(0, list(100)), weights(mostDen/100, list(mostDen/100), list(0), list(mostDen)), [2]int{100, 1}}, {task(7, list(100)), weights(mostDen, list(mostDen), list(mostDen), list(0)), [2]int{7, 1}},
	} {
		v, e := array.CheckWeights(c.x, c.w)
		wantSame(t, "CheckWeights", v, e, c.want, api.OK)
	}
}

// wrongWeights is weights for the task of the examples with two loudspeakers, with their error.
type wrongWeights struct {
	w    api.ArrayWeights
	want api.Errno
}

func allWrongWeights() []wrongWeights {
	none := list(0, 0)
	var l []wrongWeights
	for _, den := range list(0, -1, mostDen+1, greatestInt, leastInt) {
		l = append(l, wrongWeights{weights(den, list(1, 0), none, list(2, 0)), api.ErrRange}, wrongWeights{weights(den, nil, nil, nil), api.ErrRange})
	}
	for _, x := range rows(nil, list(1), list(1, 0, 0), list(-1)) {
		for _, y := range rows(none, list(-1, -1)) {
			l = append(l, wrongWeights{weights(1, x, y, y), api.ErrShape}, wrongWeights{weights(1, y, x, y), api.ErrShape}, wrongWeights{weights(1, y, y, x), api.ErrShape})
		}
	}
	for _, n := range list(-1, mostDen+1, greatestInt, leastInt) {
		for _, x := range rows(list(n, 0), list(0, n)) {
			l = append(l, wrongWeights{weights(1, x, none, none), api.ErrRange}, wrongWeights{weights(1, none, x, none), api.ErrRange}, wrongWeights{weights(1, none, none, x), api.ErrRange},
				wrongWeights{weights(1, list(1, 0), x, list(2, 0)), api.ErrRange}, wrongWeights{weights(1, list(1, 0), none, x), api.ErrRange})
		}
	}
	for _, w := range []api.ArrayWeights{
		weights(1, list(1, 0), none, list(1, 0)), weights(1, list(1, 0), none, list(1, mostDen)), weights(1, list(0, 1), none, list(0, 3)), weights(1, list(0, 1), none, list(mostDen, 3)),
		// Low is not Den together
		weights(1, none, none, none), weights(1, list(1, 1), none, list(9, 9)), weights(2, list(1, 0), none, list(2, 0)), weights(mostDen, list(mostDen, mostDen), none, list(mostDen, mostDen)),
		weights(3, list(2, 2), none, list(9, 9)), weights(3, list(1, 1), none, list(9, 9)),
		// the other seat, or too little for this one
		weights(2, list(2, 0), list(0, 9), list(3, 0)), weights(2, list(2, 0), list(1, 0), list(1, 0)), weights(mostDen, list(mostDen, 0), none, list(mostDen, mostDen)),
	} {
		l = append(l, wrongWeights{w, api.ErrProof})
	}
	return l
}

// P7.4: the errors of weights, in their order.
func TestWeightErrors(t *testing.T) {
	for _, c := range allWrongWeights() {
		v, e := array.CheckWeights(two(), c.w)
		wantWrong(t, "CheckWeights", v, e, c.want)
		wantSame(t, "CannotReach", 0, array.CannotReach(two(), 1000, c.w), 0, c.want)
		wantSame(t, "CannotReach", 0, array.CannotReach(two(), 0, c.w), 0, c.want)
		wantSame(t, "CannotReach a wrong level", 0, array.CannotReach(two(), -1, c.w), 0, api.ErrRange)
	}
	// of other shapes than two by two
	v, e := array.CheckWeights(half(), weights(4, list(0, 4), list(1, 0), list(0, 0)))
	wantWrong(t, "CheckWeights", v, e, api.ErrShape)
	v, e = array.CheckWeights(half(), weights(4, list(4), list(1), list(0, 0)))
	wantWrong(t, "CheckWeights", v, e, api.ErrShape)
	v, e = array.CheckWeights(task(9, list(1, 2, 3)), weights(1, list(1), list(0), list(1, 2, 2)))
	wantWrong(t, "CheckWeights", v, e, api.ErrProof)
}

// P7.4: a level cannot be reached if it is above the bound.
func TestCannotReach(t *testing.T) {
	for _, c := range []struct {
		x     api.ArrayTask
		w     api.ArrayWeights
		level int
		want  api.Errno
	}{
		{two(), weightsOfTwo(), 3, api.OK}, {two(), weightsOfTwo(), 2, api.ErrProof}, {two(), weightsOfTwo(), 1000, api.OK}, {two(), weightsOfTwo(), 0, api.ErrProof},
		{half(), weightsOfHalf(), 1, api.OK}, {half(), weightsOfHalf(), 0, api.ErrProof}, {task(0, list(0)), weights(1, list(1), list(0), list(0)), 0, api.ErrProof},
		{task(0, list(0)), weights(1, list(1), list(0), list(0)), 1, api.OK}, {two(), weights(3, list(2, 1), list(0, 0), list(4, 4)), 3, api.OK},
		{two(), weights(3, list(2, 1), list(0, 0), list(4, 4)), 2, api.ErrProof}, {two(), weights(1, list(1, 0), list(0, 0), list(999, 0)), 1000, api.OK},
		{two(), weights(1, list(1, 0), list(0, 0), list(1000, 0)), 1000, api.ErrProof}, {two(), weights(mostDen, list(mostDen, 0), list(mostDen, 0), list(0, 0)), 1000, api.OK},
	} {
		wantSame(t, "CannotReach", 0, array.CannotReach(c.x, c.level, c.w), 0, c.want)
	}
	for _, level := range list(-1, 1001, greatestInt, leastInt) {
		wantSame(t, "CannotReach", 0, array.CannotReach(two(), level, weightsOfTwo()), 0, api.ErrRange)
	}
}

// P7.4: the same as in fractions.
func TestOpenSlowly(t *testing.T) {
	r := rand.New(rand.NewSource(74))
	accepted := 0
	for range 10000 {
		x := anyTask(r)
		o := anyOpen(r, x)
		want, isAccepted := slowValue(x, o)
		v, e := array.CheckOpen(x, o)
		if !isAccepted {
			wantWrong(t, "CheckOpen", v, e, api.ErrBreak)
			continue
		}
		wantSame(t, "CheckOpen", v, e, inTwo(want), api.OK)
		accepted++
	}
	if accepted < 1000 || accepted > 9000 {
		t.Errorf("%d were accepted", accepted)
	}
}

// anyWeights is weights for a task, right or not.
func anyWeights(r *rand.Rand, x api.ArrayTask) api.ArrayWeights {
	den := anyOf(r, 1, 2, 12, mostDen/1000, from(r, 1, mostDen/1000))
	w := weights(den, nil, nil, nil)
	rest := den
	for i := range x.Table {
		n := from(r, 0, rest)
		if i == len(x.Table)-1 {
			n = rest - r.Intn(10)/9*anyOf(r, -1, 1)
		}
		rest -= n
		w.Low = append(w.Low, max(n, 0))
		w.High = append(w.High, anyOf(r, 0, 0, 1, den, from(r, 0, den)))
	}
	for j := range x.Table[0] {
		least := 0
		for i, row := range x.Table {
			least += (w.Low[i] - w.High[i]) * row[j]
		}
		w.Caps = append(w.Caps, max(least+anyOf(r, 0, 0, 0, 0, 1, den, -1), 0))
	}
	return w
}

// P7.4: the same as in fractions.
func TestWeightsSlowly(t *testing.T) {
	r := rand.New(rand.NewSource(741))
	right := 0
	for range 10000 {
		x := anyTask(r)
		w := anyWeights(r, x)
		bound, areRight := slowBound(x, w)
		level := from(r, 0, 1000)
		v, e := array.CheckWeights(x, w)
		cannot := array.CannotReach(x, level, w)
		if !areRight {
			wantWrong(t, "CheckWeights", v, e, api.ErrProof)
			wantSame(t, "CannotReach", 0, cannot, 0, api.ErrProof)
			continue
		}
		wantSame(t, "CheckWeights", v, e, inTwo(bound), api.OK)
		want := api.OK
		if bound.Cmp(rat(level, 1)) >= 0 {
			want = api.ErrProof
		}
		wantSame(t, "CannotReach", 0, cannot, 0, want)
		right++
	}
	if right < 1000 || right > 9000 {
		t.Errorf("%d were right", right)
	}
}
