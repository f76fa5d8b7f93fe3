package array_test

import (
	"math/rand"
	"slices"
	"testing"

	"shoebox/api"
)

const (
	leastInt    = -1 << 63
	greatestInt = 1<<63 - 1
	farthest    = 5000          // the greatest coordinate
	mostGain    = 1000          // the greatest gain
	mostDelay   = 10000         // the greatest delay
	mostDen     = 1000000000000 // the greatest denominator of what is open, and of weights
	million     = 1000000
)

func list(l ...int) []int { return l }

func rows(l ...[]int) [][]int { return l }

func place(x, y, z int) api.Place { return api.Place{X: x, Y: y, Z: z} }

func places(l ...api.Place) []api.Place { return l }

func sound(rate, speed int) api.ArraySound { return api.ArraySound{Rate: rate, Speed: speed} }

func speaker(at api.Place, gain, delay int) api.ArraySpeaker {
	return api.ArraySpeaker{At: at, Gain: gain, Delay: delay}
}

// plainArray has the rate and the speed of the examples.
func plainArray(l ...api.ArraySpeaker) api.Array {
	return api.Array{Rate: 34000, Speed: 34000, Speakers: l}
}

// pair is the array of the examples, and seat its seat.
func pair(delay int) api.Array {
	return plainArray(speaker(place(0, 0, 0), 1000, 0), speaker(place(0, 0, 100), 500, delay))
}

func seat() api.Place { return place(0, 0, 500) }

func between(least, greatest int) api.Range { return api.Range{Lo: least, Hi: greatest} }

func task(most int, l ...[]int) api.ArrayTask { return api.ArrayTask{Table: l, Cap: most} }

func open(den int, l ...int) api.ArrayOpen { return api.ArrayOpen{Den: den, Open: l} }

func weights(den int, low, high, caps []int) api.ArrayWeights {
	return api.ArrayWeights{Den: den, Low: low, High: high, Caps: caps}
}

// two and half are the tasks of the examples, with weights that prove their values.
func two() api.ArrayTask  { return task(3, list(2, 0), list(0, 4)) }
func half() api.ArrayTask { return task(2, list(4), list(1)) }

func weightsOfTwo() api.ArrayWeights  { return weights(1, list(1, 0), list(0, 0), list(2, 0)) }
func weightsOfHalf() api.ArrayWeights { return weights(4, list(0, 4), list(1, 0), list(0)) }

// wantSame tests a result and its error.
func wantSame[T comparable](t *testing.T, name string, got T, e api.Errno, want T, wrong api.Errno) {
	t.Helper()
	if got != want || e != wrong {
		t.Errorf("%s: %v, error %d, want %v, %d", name, got, e, want, wrong)
	}
}

// wantWrong tests an error, beside which there may be nothing.
func wantWrong[T comparable](t *testing.T, name string, got T, e, wrong api.Errno) {
	t.Helper()
	var nothing T
	wantSame(t, name, got, e, nothing, wrong)
}

// wantList tests a list that has no error.
func wantList[T comparable](t *testing.T, name string, got []T, e api.Errno, want ...T) {
	t.Helper()
	if !slices.Equal(got, want) || e != api.OK {
		t.Errorf("%s: %v, error %d, want %v", name, got, e, want)
	}
}

// wantRows tests rows that have no error.
func wantRows(t *testing.T, name string, got [][]int, e api.Errno, want ...[]int) {
	t.Helper()
	if !slices.EqualFunc(got, want, slices.Equal) || e != api.OK {
		t.Errorf("%s: %v, error %d, want %v", name, got, e, want)
	}
}

func sameArray(a, b api.Array) bool {
	return a.Rate == b.Rate && a.Speed == b.Speed && slices.Equal(a.Speakers, b.Speakers)
}

// wantArray tests an array and its error.
func wantArray(t *testing.T, name string, got api.Array, e api.Errno, want api.Array, wrong api.Errno) {
	t.Helper()
	if !sameArray(got, want) || e != wrong {
		t.Errorf("%s: %v, error %d, want %v, %d", name, got, e, want, wrong)
	}
}

// anyOf is one of some values.
func anyOf[T any](r *rand.Rand, l ...T) T { return l[r.Intn(len(l))] }

// from is a number of a range.
func from(r *rand.Rand, least, greatest int) int { return least + r.Intn(greatest-least+1) }

func anyCoordinate(r *rand.Rand) int {
	return anyOf(r, 0, farthest, -farthest, from(r, -30, 30), from(r, -farthest, farthest))
}

func anyPlace(r *rand.Rand) api.Place {
	return place(anyCoordinate(r), anyCoordinate(r), anyCoordinate(r))
}

func anySound(r *rand.Rand) api.ArraySound {
	rate := anyOf(r, 8000, 192000, 34000, 48000, 68000, from(r, 8000, 192000))
	speed := anyOf(r, 30000, 40000, 34000, 34300, from(r, 30000, 40000))
	return sound(rate, speed)
}

func anySpeaker(r *rand.Rand) api.ArraySpeaker {
	gain := anyOf(r, 0, 1, mostGain, from(r, 0, mostGain))
	delay := anyOf(r, 0, 1, 2, 3, mostDelay, from(r, 0, mostDelay))
	return speaker(anyPlace(r), gain, delay)
}

func anyArray(r *rand.Rand, most int) api.Array {
	x := anySound(r)
	a := api.Array{Rate: x.Rate, Speed: x.Speed}
	for range from(r, 1, most) {
		a.Speakers = append(a.Speakers, anySpeaker(r))
	}
	return a
}

// anySeat is a place that is far enough from all loudspeakers, often as near as it may be.
func anySeat(r *rand.Rand, a api.Array) api.Place {
	for {
		p := anyPlace(r)
		if r.Intn(3) == 0 {
			p = anyOf(r, a.Speakers...).At
			p.X += anyOf(r, -1, 1) * from(r, 10, 20) * (1 - p.X/farthest*p.X/farthest)
			p.Z += from(r, 0, 12) * (1 - p.Z/farthest*p.Z/farthest)
		}
		isFar := !slices.ContainsFunc(a.Speakers, func(s api.ArraySpeaker) bool { return squareOf(s.At, p) < 100 })
		if isFar && max(p.X, -p.X, p.Y, -p.Y, p.Z, -p.Z) <= farthest {
			return p
		}
	}
}

// anyTask is often one with small numbers, or with some that come again.
func anyTask(r *rand.Rand) api.ArrayTask {
	most := anyOf(r, 1, 2, 5, 100)
	x := task(anyOf(r, 0, 1, 1000, from(r, 0, 2*most), from(r, 0, 1000)))
	columns := from(r, 1, 3)
	for range from(r, 1, 4) {
		var row []int
		for range columns {
			row = append(row, anyOf(r, 0, most, from(r, 0, most), from(r, 0, most)))
		}
		x.Table = append(x.Table, row)
	}
	return x
}

// anyOpen is open for the loudspeakers of a task, accepted or not.
func anyOpen(r *rand.Rand, x api.ArrayTask) api.ArrayOpen {
	o := open(anyOf(r, 1, 2, 3, 100, mostDen, from(r, 1, mostDen)))
	for range x.Table[0] {
		o.Open = append(o.Open, anyOf(r, 0, o.Den, o.Den/2, from(r, 0, o.Den), from(r, 0, o.Den/10)))
	}
	return o
}
