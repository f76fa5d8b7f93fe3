package array_test

import (
	"slices"
	"testing"

	"shoebox/api"
	"shoebox/array"
)

// arrayCall is a function with an array; its further arguments are right, or wrong. It tells whether its result is nothing.
type arrayCall func(a api.Array, isRight bool) (bool, api.Errno)

// seatCall is a function with an array and a seat.
type seatCall func(a api.Array, at api.Place) (bool, api.Errno)

// taskCall is a function with a task; its further arguments are right, or wrong.
type taskCall func(x api.ArrayTask, isRight bool) (bool, api.Errno)

// told tells whether a result is nothing.
func told[T comparable](result T, e api.Errno) (bool, api.Errno) {
	var nothing T
	return result == nothing, e
}

func toldArray(a api.Array, e api.Errno) (bool, api.Errno) { return sameArray(a, api.Array{}), e }

// choose is a right value, or a wrong one.
func choose[T any](isRight bool, right, wrong T) T {
	if isRight {
		return right
	}
	return wrong
}

func seatCalls() map[string]seatCall {
	return map[string]seatCall{
		"PressureAt": func(a api.Array, at api.Place) (bool, api.Errno) { return told(array.PressureAt(a, at)) },
		"EndsAt":     func(a api.Array, at api.Place) (bool, api.Errno) { return told(array.EndsAt(a, at)) },
		"SizeAt":     func(a api.Array, at api.Place) (bool, api.Errno) { return told(array.SizeAt(a, at)) },
		"EnergyAt":   func(a api.Array, at api.Place) (bool, api.Errno) { return told(array.EnergyAt(a, at)) },
		"Aligned":    func(a api.Array, at api.Place) (bool, api.Errno) { return toldArray(array.Aligned(a, at)) },
		"TableOf": func(a api.Array, at api.Place) (bool, api.Errno) {
			l, e := array.TableOf(a, places(at), million*million)
			return len(l) == 0, e
		},
	}
}

func arrayCalls() map[string]arrayCall {
	calls := map[string]arrayCall{
		"Muted": func(a api.Array, isRight bool) (bool, api.Errno) {
			return toldArray(array.Muted(a, choose(isRight, 0, -1)))
		},
		"TableOf without seats": func(a api.Array, isRight bool) (bool, api.Errno) {
			l, e := array.TableOf(a, choose(isRight, places(seat()), nil), choose(isRight, million*million, 0))
			return len(l) == 0, e
		},
		"WithGains": func(a api.Array, isRight bool) (bool, api.Errno) {
			return toldArray(array.WithGains(a, choose(isRight, [][2]int{{1, 2}, {3, 4}}, [][2]int{{1, 2}})))
		},
	}
	for name, f := range seatCalls() {
		calls[name] = func(a api.Array, isRight bool) (bool, api.Errno) {
			return f(a, choose(isRight, seat(), place(0, 0, 101)))
		}
	}
	return calls
}

func taskCalls() map[string]taskCall {
	return map[string]taskCall{
		"CheckTask": func(x api.ArrayTask, _ bool) (bool, api.Errno) { return true, array.CheckTask(x) },
		"CheckOpen": func(x api.ArrayTask, isRight bool) (bool, api.Errno) {
			return told(array.CheckOpen(x, open(choose(isRight, 2, 0), 1, 1)))
		},
		"CheckWeights": func(x api.ArrayTask, isRight bool) (bool, api.Errno) {
			return told(array.CheckWeights(x, choose(isRight, weightsOfTwo(), api.ArrayWeights{})))
		},
		"BestOpen": func(x api.ArrayTask, _ bool) (bool, api.Errno) {
			o, w, v, e := array.BestOpen(x)
			return o.Den == 0 && len(o.Open) == 0 && w.Den == 0 && len(w.Low)+len(w.High)+len(w.Caps) == 0 && v == [2]int{}, e
		},
		"Reaches": func(x api.ArrayTask, isRight bool) (bool, api.Errno) {
			return told(array.Reaches(x, choose(isRight, 1, -1)))
		},
		"CannotReach": func(x api.ArrayTask, isRight bool) (bool, api.Errno) {
			return true, array.CannotReach(x, choose(isRight, 3, -1), weightsOfTwo())
		},
	}
}

// P7.1 to P7.5: the errors of an array come first, and with them nothing else.
func TestArrayErrors(t *testing.T) {
	for name, f := range arrayCalls() {
		for _, isRight := range []bool{true, false} {
			wrong := func(a api.Array, want api.Errno) {
				t.Helper()
				isNothing, e := f(a, isRight)
				wantSame(t, name, isNothing, e, true, want)
			}
			wrong(plainArray(), api.ErrShape)
			wrong(api.Array{}, api.ErrRange)
			wrong(api.Array{Rate: 7999, Speed: 34000, Speakers: pair(0).Speakers}, api.ErrRange)
			wrong(api.Array{Rate: 34000, Speed: 40001, Speakers: pair(0).Speakers}, api.ErrRange)
			wrong(plainArray(make([]api.ArraySpeaker, 9)...), api.ErrLarge)
			for _, s := range wrongSpeakers() {
				wrong(plainArray(speaker(place(0, 0, 0), 1, 0), s), api.ErrRange)
			}
		}
		isNothing, e := f(pair(400), true)
		wantSame(t, name+" of the example", isNothing, e, false, api.OK)
	}
}

// P7.3: the errors of a seat: that of its place, then that of the loudspeakers, whatever their gains are.
func TestSeatErrors(t *testing.T) {
	for name, f := range seatCalls() {
		wrong := func(a api.Array, at api.Place, want api.Errno) {
			t.Helper()
			isNothing, e := f(a, at)
			wantSame(t, name, isNothing, e, true, want)
		}
		for _, n := range list(farthest+1, -farthest-1, greatestInt, leastInt) {
			for _, at := range places(place(n, 0, 0), place(0, n, 0), place(0, 0, n)) {
				wrong(pair(0), at, api.ErrRange)
				wrong(plainArray(speaker(place(0, 0, farthest), 1, 0), speaker(place(farthest, 0, 0), 1, 0), speaker(place(0, -farthest, 0), 1, 0)), at, api.ErrRange)
			}
		}
		for _, at := range places(place(0, 0, 0), place(0, 0, 9), place(5, 5, 7), place(0, 0, 109), place(-9, 0, 100), place(7, -7, 99)) {
			wrong(pair(0), at, api.ErrZero)
			wrong(plainArray(speaker(place(0, 0, 0), 0, 0), speaker(place(0, 0, 100), 0, 0)), at, api.ErrZero)
		}
		far := place(farthest, farthest, farthest)
		last := plainArray(slices.Repeat([]api.ArraySpeaker{speaker(far, 0, 0)}, 3)...)
		last.Speakers[2].At = place(0, 0, 0)
		wrong(last, place(0, 0, 1), api.ErrZero)
		_, e := f(last, place(0, 0, 3000))
		wantSame(t, name, 0, e, 0, api.OK)
	}
}

// P7.4: the errors of a task come first, and with them nothing else.
func TestTaskErrors(t *testing.T) {
	for name, f := range taskCalls() {
		for _, x := range wrongTasks() {
			for _, isRight := range []bool{true, false} {
				isNothing, e := f(x.task, isRight)
				wantSame(t, name, isNothing, e, true, x.want)
			}
		}
		isNothing, e := f(two(), true)
		wantSame(t, name+" of the example", isNothing, e, name == "CheckTask" || name == "CannotReach", api.OK)
	}
}
