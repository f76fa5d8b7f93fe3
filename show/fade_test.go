package show_test

import (
	"math/rand"
	"testing"

	"shoebox/api"
	"shoebox/show"
)

// wrongLevels is levels that are wrong, with their errors.
func wrongLevels() []struct {
	levels []int
	errno  api.Errno
} {
	return []struct {
		levels []int
		errno  api.Errno
	}{
		{nil, api.ErrShape},
		{list(), api.ErrShape},
		{make([]int, 9), api.ErrShape},
		{repeated(9, -1), api.ErrShape},
		{list(-1), api.ErrRange},
		{list(1001), api.ErrRange},
		{list(0, 1000, 5, 1001), api.ErrRange},
		{list(0, 0, 0, 0, 0, 0, 0, -1), api.ErrRange},
		{list(greatestInt), api.ErrRange},
		{list(leastInt), api.ErrRange},
	}
}

// P10.1: the example, roundings, and fades of no steps.
func TestFadeAt(t *testing.T) {
	for _, c := range []struct {
		x    api.ShowFade
		want []int
	}{
		{fade(3, 0, list(0, 100), list(100, 99)), list(0, 100)},
		{fade(3, 1, list(0, 100), list(100, 99)), list(33, 100)},
		{fade(3, 2, list(0, 100), list(100, 99)), list(67, 99)},
		{fade(3, 3, list(0, 100), list(100, 99)), list(100, 99)},
		// halves up, whichever way the fade goes
		{fade(2, 1, list(0, 1, 10, 13), list(1, 0, 13, 10)), list(1, 1, 12, 12)},
		{fade(4, 1, list(0, 2, 0, 6), list(2, 0, 6, 0)), list(1, 2, 2, 5)},
		{fade(4, 3, list(0, 2), list(2, 0)), list(2, 1)},
		{fade(5, 2, list(0, 1), list(1, 0)), list(0, 1)},
		{fade(5, 3, list(0, 1), list(1, 0)), list(1, 0)},
		{fade(1, 0, list(7), list(9)), list(7)},
		{fade(1, 1, list(7), list(9)), list(9)},
		{fade(0, 0, list(7, 1000), list(9, 0)), list(9, 0)},
		{fade(1000, 1, list(0, 1000), list(1000, 0)), list(1, 999)},
		{fade(1000, 999, list(0, 1000), list(1000, 0)), list(999, 1)},
		{fade(1000, 500, list(0, 1, 2, 3, 4, 5, 6, 7), list(1, 2, 3, 4, 5, 6, 7, 8)), list(1, 2, 3, 4, 5, 6, 7, 8)},
		{fade(1000, 499, list(0), list(1)), list(0)},
	} {
		l, e := show.FadeAt(c.x)
		wantSame(t, "FadeAt of "+textOf(c.x), l, e, c.want, api.OK)
	}
}

// P10.1: errors of fades, and their order.
func TestFadeErrors(t *testing.T) {
	one := list(5)
	for _, c := range wrongLevels() {
		for _, other := range append(rows(one), repeated(9, 1)) {
			l, e := show.FadeAt(fade(-1, 5, c.levels, other))
			wantWrong(t, "FadeAt from "+textOf(c.levels), l, e, c.errno)
		}
		l, e := show.FadeAt(fade(-1, 5, one, c.levels))
		wantWrong(t, "FadeAt to "+textOf(c.levels), l, e, c.errno)
	}
	l, e := show.FadeAt(fade(1, 0, list(1001), nil))
	wantWrong(t, "FadeAt of two wrong levels", l, e, api.ErrRange)
	for _, c := range []struct {
		steps, step int
		to          []int
		want        api.Errno
	}{
		{-1, 0, list(1, 2), api.ErrClash},
		{3, 4, list(1, 2), api.ErrClash},
		{-1, 0, one, api.ErrRange},
		{-1, -1, one, api.ErrRange},
		{1001, 0, one, api.ErrRange},
		{1001, 1001, one, api.ErrRange},
		{leastInt, leastInt, one, api.ErrRange},
		{greatestInt, greatestInt, one, api.ErrRange},
		{3, -1, one, api.ErrRange},
		{3, 4, one, api.ErrRange},
		{0, 1, one, api.ErrRange},
		{3, greatestInt, one, api.ErrRange},
		{3, leastInt, one, api.ErrRange},
		{1000, 1001, one, api.ErrRange},
		{1000, 1000, one, api.OK},
	} {
		l, e := show.FadeAt(fade(c.steps, c.step, one, c.to))
		if c.want == api.OK {
			wantSame(t, "the last step", l, e, c.to, api.OK)
		} else {
			wantWrong(t, "FadeAt with "+textOf(c), l, e, c.want)
		}
	}
}

// P10.1, P10.8: each level is the nearest number, fades begin and end exactly, lie between, and do not turn back.
func TestFadesSlowly(t *testing.T) {
	r := rand.New(rand.NewSource(1))
	for range 400 {
		channels, steps := between(r, 1, 8), anyOf(r, 0, 1, 2, 3, 1000, between(r, 0, 1000))
		from, to := anyLevels(r, channels), anyLevels(r, channels)
		last := from
		for step := range steps + 1 {
			l, e := show.FadeAt(fade(steps, step, from, to))
			wantSame(t, "FadeAt", l, e, slowFade(from, to, steps, step), api.OK)
			for i := range l {
				ahead := (to[i] - from[i]) * (l[i] - last[i])
				if ahead < 0 || l[i] < min(from[i], to[i]) || l[i] > max(from[i], to[i]) {
					t.Errorf("from %d to %d: %d behind %d", from[i], to[i], l[i], last[i])
				}
			}
			if step == 0 && steps > 0 {
				wantSame(t, "the first step", l, e, from, api.OK)
			}
			last = l
		}
		wantSame(t, "the last step", last, api.OK, to, api.OK)
	}
}

// wrongMoves is moves that are wrong, the number of the first wrong one, and its error.
func wrongMoves() []struct {
	l     []api.ShowMove
	n     int
	errno api.Errno
} {
	right := move(10, 5, 1, 2)
	return []struct {
		l     []api.ShowMove
		n     int
		errno api.Errno
	}{
		{repeated(41, right), 0, api.ErrLarge},
		{repeated(41, move(-1, -1)), 0, api.ErrLarge},
		{moves(move(-1, 0, 1)), 0, api.ErrRange},
		{moves(right, move(lastTick+1, 0, 1, 2)), 1, api.ErrRange},
		{moves(move(greatestInt, 0, 1)), 0, api.ErrRange},
		{moves(right, right, move(leastInt, 0)), 2, api.ErrRange},
		{moves(right, move(9, -1)), 1, api.ErrOrder},
		{moves(right, move(12, 0, 1, 1), move(11, 0, 1, 1)), 2, api.ErrOrder},
		{moves(right, move(10, -1, 1)), 1, api.ErrClash},
		{moves(right, right, move(10, 0, 1, 2, 3)), 2, api.ErrClash},
		{moves(move(1, 1, 5), move(1, 1, 5, 6)), 1, api.ErrClash},
		{moves(move(0, -1, 1)), 0, api.ErrRange},
		{moves(move(0, 1001, 1)), 0, api.ErrRange},
		{moves(right, move(10, greatestInt, 1, 2)), 1, api.ErrRange},
		{moves(right, move(10, leastInt, 1, 2), move(0, 0)), 1, api.ErrRange},
	}
}

// P10.2: right and wrong moves, the order of errors, and that all functions with moves tell them.
func TestCheckMoves(t *testing.T) {
	for _, l := range [][]api.ShowMove{
		nil, moves(), moves(move(0, 0, 0)), moves(move(lastTick, 1000, 1000)), repeated(40, move(7, 7, 7)),
		moves(move(0, 0, 0, 0), move(0, 1000, 1, 1), move(5, 3, 2, 2), move(lastTick, 0, 3, 3)),
		moves(move(3, 1, 1, 2, 3, 4, 5, 6, 7, 8)),
	} {
		n, e := show.CheckMoves(l)
		wantSame(t, "CheckMoves of "+textOf(l), n, e, 0, api.OK)
	}
	wrong := func(l []api.ShowMove, number int, want api.Errno) {
		t.Helper()
		n, e := show.CheckMoves(l)
		wantSame(t, "CheckMoves of "+textOf(l), n, e, number, want)
		for _, tick := range list(10, -1) {
			levels, e := show.LevelsAt(l, tick)
			wantWrong(t, "LevelsAt of "+textOf(l), levels, e, want)
		}
		n, e = show.StillFrom(l)
		wantWrong(t, "StillFrom of "+textOf(l), n, e, want)
	}
	for _, c := range wrongMoves() {
		wrong(c.l, c.n, c.errno)
	}
	for _, c := range wrongLevels() {
		wrong(moves(move(0, -1, c.levels...)), 0, c.errno)
		wrong(moves(move(0, 0, 1, 2), move(0, -1, c.levels...)), 1, c.errno)
	}
}

// P10.2: the levels of the example, of moves at one tick, and of none.
func TestLevelsAt(t *testing.T) {
	example := moves(move(10, 4, 100), move(12, 2, 0))
	for _, c := range []struct {
		name string
		l    []api.ShowMove
		tick int
		want []int
	}{
		{"no moves", nil, 0, nil},
		{"no moves, later", nil, 2 * lastTick, nil},
		{"ahead", example, 0, list(0)},
		{"just ahead", example, 9, list(0)},
		{"the beginning", example, 10, list(0)},
		{"the example", example, 11, list(25)},
		{"the example", example, 12, list(50)},
		{"the example", example, 13, list(25)},
		{"the example", example, 14, list(0)},
		{"behind", example, 2 * lastTick, list(0)},
		{"the first one alone", example[:1], 14, list(100)},
		{"the first one alone, later", example[:1], 15, list(100)},
		{"ahead of all channels", moves(move(1, 0, 5, 6, 7)), 0, list(0, 0, 0)},
		{"at once", moves(move(1, 0, 5, 6, 7)), 1, list(5, 6, 7)},
		{"one tick: from where the first one begins", moves(move(5, 2, 100), move(5, 4, 8)), 7, list(4)},
		{"one tick: from where it ends", moves(move(5, 0, 100), move(5, 4, 8)), 7, list(54)},
		{"one tick: the last one", moves(move(5, 0, 100), move(5, 0, 8)), 5, list(8)},
		{"one tick, behind another", moves(move(1, 0, 60), move(5, 9, 100), move(5, 6, 0)), 8, list(30)},
		{"a gap", moves(move(1, 3, 30), move(9, 3, 60)), 8, list(30)},
		{"behind a gap", moves(move(1, 3, 30), move(9, 3, 60)), 10, list(40)},
		{"the last tick", moves(move(lastTick, 1000, 1000)), lastTick + 999, list(999)},
		{"behind the last tick", moves(move(lastTick, 1000, 1000)), lastTick + 1001, list(1000)},
	} {
		l, e := show.LevelsAt(c.l, c.tick)
		wantSame(t, "LevelsAt: "+c.name, l, e, c.want, api.OK)
	}
	for _, tick := range list(-1, 2*lastTick+1, greatestInt, leastInt) {
		for _, l := range [][]api.ShowMove{nil, example} {
			levels, e := show.LevelsAt(l, tick)
			wantWrong(t, "LevelsAt", levels, e, api.ErrRange)
		}
	}
}

// P10.2, P10.8: levels follow the definition, and are those of the last move from StillFrom on.
func TestLevelsSlowly(t *testing.T) {
	r := rand.New(rand.NewSource(2))
	for range 1500 {
		channels := between(r, 1, 4)
		l := anyMoves(r, channels, 7)
		end, e := show.StillFrom(l)
		if len(l) == 0 {
			wantWrong(t, "StillFrom", end, e, api.ErrNone)
			continue
		}
		last := l[len(l)-1]
		wantSame(t, "StillFrom", end, e, last.Tick+last.Steps, api.OK)
		for tick := range end + 5 {
			levels, e := show.LevelsAt(l, tick)
			wantSame(t, "LevelsAt of "+textOf(l), levels, e, slowLevels(l, tick, channels), api.OK)
			if tick >= end {
				wantSame(t, "from StillFrom on", levels, e, last.Levels, api.OK)
			}
		}
	}
}

// P10.2: from when on levels do not change.
func TestStillFrom(t *testing.T) {
	for _, l := range [][]api.ShowMove{nil, moves()} {
		n, e := show.StillFrom(l)
		wantWrong(t, "StillFrom of nothing", n, e, api.ErrNone)
	}
	for _, c := range []struct {
		l    []api.ShowMove
		want int
	}{
		{moves(move(10, 4, 100), move(12, 2, 0)), 14},
		{moves(move(10, 1000, 100), move(12, 0, 0)), 12},
		{moves(move(lastTick, 1000, 0)), lastTick + 1000},
		{moves(move(0, 0, 0)), 0},
	} {
		n, e := show.StillFrom(c.l)
		wantSame(t, "StillFrom of "+textOf(c.l), n, e, c.want, api.OK)
	}
}
