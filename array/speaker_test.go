package array_test

import (
	"math/rand"
	"slices"
	"testing"

	"shoebox/api"
	"shoebox/array"
)

// P7.1: right arrays, with the edges.
func TestCheckArray(t *testing.T) {
	many := slices.Repeat([]api.ArraySpeaker{{}}, 8)
	for _, a := range []api.Array{
		pair(0), pair(mostDelay), plainArray(many...), plainArray(speaker(place(1, 2, 3), 0, 0)), plainArray(speaker(place(0, 0, 0), mostGain, mostDelay)),
		plainArray(speaker(place(farthest, -farthest, farthest), 1, 1)), plainArray(speaker(place(-farthest, farthest, -farthest), 1, 1)),
		{Rate: 8000, Speed: 30000, Speakers: many}, {Rate: 192000, Speed: 40000, Speakers: many},
	} {
		n, e := array.CheckArray(a)
		wantSame(t, "CheckArray", n, e, 0, api.OK)
	}
}

// P7.1: the errors of the array as a whole come first, and name no loudspeaker.
func TestCheckArrayWhole(t *testing.T) {
	wrong := speaker(place(0, 0, 0), -1, 0)
	for _, l := range [][]api.ArraySpeaker{nil, {}, {wrong}, slices.Repeat([]api.ArraySpeaker{wrong}, 9)} {
		for _, x := range []api.ArraySound{
			sound(7999, 34000), sound(192001, 34000), sound(34000, 29999), sound(34000, 40001), sound(0, 0), sound(leastInt, 34000), sound(34000, greatestInt), sound(greatestInt, leastInt),
		} {
			n, e := array.CheckArray(api.Array{Rate: x.Rate, Speed: x.Speed, Speakers: l})
			wantWrong(t, "CheckArray of a wrong sound", n, e, api.ErrRange)
		}
	}
	n, e := array.CheckArray(plainArray())
	wantWrong(t, "CheckArray of none", n, e, api.ErrShape)
	n, e = array.CheckArray(api.Array{Rate: 8000, Speed: 40000, Speakers: []api.ArraySpeaker{}})
	wantWrong(t, "CheckArray of none", n, e, api.ErrShape)
	n, e = array.CheckArray(plainArray(slices.Repeat([]api.ArraySpeaker{wrong}, 9)...))
	wantWrong(t, "CheckArray of too many", n, e, api.ErrLarge)
	n, e = array.CheckArray(plainArray(slices.Repeat([]api.ArraySpeaker{{}}, 100)...))
	wantWrong(t, "CheckArray of too many", n, e, api.ErrLarge)
}

// wrongSpeakers has one number that is not in its range.
func wrongSpeakers() []api.ArraySpeaker {
	var l []api.ArraySpeaker
	for _, n := range list(farthest+1, -farthest-1, greatestInt, leastInt) {
		l = append(l, speaker(place(n, 0, 0), 0, 0), speaker(place(0, n, 0), 0, 0), speaker(place(0, 0, n), 0, 0))
	}
	for _, n := range list(-1, mostDelay+1, greatestInt, leastInt) {
		l = append(l, speaker(place(0, 0, 0), n, 0), speaker(place(0, 0, 0), 0, n))
	}
	return append(l, speaker(place(0, 0, 0), mostGain+1, 0))
}

// P7.1: the first wrong loudspeaker is named.
func TestCheckArraySpeakers(t *testing.T) {
	for _, s := range wrongSpeakers() {
		for count := 1; count <= 8; count++ {
			for at := range count {
				l := make([]api.ArraySpeaker, count)
				l[at], l[count-1] = s, s
				n, e := array.CheckArray(plainArray(l...))
				wantSame(t, "CheckArray", n, e, at, api.ErrRange)
			}
		}
	}
}

// P7.1: a muted array has the gain 0 for one loudspeaker.
func TestMuted(t *testing.T) {
	a, e := array.Muted(pair(400), 0)
	wantArray(t, "Muted", a, e, plainArray(speaker(place(0, 0, 0), 0, 0), speaker(place(0, 0, 100), 500, 400)), api.OK)
	a, e = array.Muted(pair(400), 1)
	wantArray(t, "Muted", a, e, plainArray(speaker(place(0, 0, 0), 1000, 0), speaker(place(0, 0, 100), 0, 400)), api.OK)
	again, e := array.Muted(a, 1)
	wantArray(t, "Muted again", again, e, a, api.OK)
	r := rand.New(rand.NewSource(71))
	for range 300 {
		a := anyArray(r, 8)
		at := r.Intn(len(a.Speakers))
		got, e := array.Muted(a, at)
		a.Speakers[at].Gain = 0
		wantArray(t, "Muted", got, e, a, api.OK)
	}
}

// P7.1: which loudspeakers are not there.
func TestMutedErrors(t *testing.T) {
	for count := 1; count <= 8; count++ {
		a := plainArray(make([]api.ArraySpeaker, count)...)
		for _, n := range list(-1, count, count+1, 8, greatestInt, leastInt) {
			if n < 0 || n >= count {
				got, e := array.Muted(a, n)
				wantArray(t, "Muted", got, e, api.Array{}, api.ErrMissing)
			}
		}
		_, e := array.Muted(a, count-1)
		wantSame(t, "Muted", 0, e, 0, api.OK)
	}
}
