package array_test

import (
	"slices"
	"testing"

	"shoebox/api"
	"shoebox/array"
)

// R4: no function changes its arguments, or what lies behind their ends.
func TestArgumentsStay(t *testing.T) {
	a := pair(400)
	a.Speakers = slices.Grow(a.Speakers, 3)
	seats := slices.Grow(places(seat()), 3)
	gains := slices.Grow([][2]int{{1, 2}, {3, 4}}, 3)
	x := task(3, slices.Grow(list(2, 0), 3), slices.Grow(list(0, 4), 3))
	o := open(2, slices.Grow(list(2, 1), 3)...)
	w := weights(1, slices.Grow(list(1, 0), 3), slices.Grow(list(0, 0), 3), slices.Grow(list(2, 0), 3))
	for _, f := range arrayCalls() {
		f(a, true)
	}
	for _, f := range taskCalls() {
		f(x, true)
	}
	array.CheckArray(a)
	array.TableOf(a, seats, million*million)
	array.FormatGains(a.Speakers)
	array.WithGains(a, gains)
	array.CheckOpen(x, o)
	array.CheckWeights(x, w)
	array.CannotReach(x, 3, w)
	wantArray(t, "array", a, api.OK, pair(400), api.OK)
	wantList(t, "seats", seats, api.OK, seat())
	wantList(t, "gains", gains, api.OK, [2]int{1, 2}, [2]int{3, 4})
	wantRows(t, "table", x.Table, api.OK, list(2, 0), list(0, 4))
	wantRows(t, "lists", rows(o.Open, w.Low, w.High, w.Caps), api.OK, list(2, 1), list(1, 0), list(0, 0), list(2, 0))
	wantList(t, "behind loudspeakers", a.Speakers[2:5], api.OK, make([]api.ArraySpeaker, 3)...)
	wantList(t, "behind seats", seats[1:4], api.OK, make([]api.Place, 3)...)
	for _, l := range rows(x.Table[0], x.Table[1], w.Low, w.High, w.Caps) {
		wantList(t, "behind a list", l[2:5], api.OK, 0, 0, 0)
	}
}

// R4: arrays that are returned share no loudspeakers with those that are given.
func TestArraysAreNew(t *testing.T) {
	for name, f := range map[string]func(a api.Array) (api.Array, api.Errno){
		"Muted":     func(a api.Array) (api.Array, api.Errno) { return array.Muted(a, 0) },
		"Aligned":   func(a api.Array) (api.Array, api.Errno) { return array.Aligned(a, seat()) },
		"WithGains": func(a api.Array) (api.Array, api.Errno) { return array.WithGains(a, [][2]int{{1, 2}, {3, 4}}) },
	} {
		a := pair(400)
		a.Speakers = slices.Grow(a.Speakers, 3)
		b, e := f(a)
		want, _ := f(pair(400))
		a.Speakers[0].Gain, a.Speakers[1].Delay = 7, 8
		wantArray(t, name, b, e, want, api.OK)
		b.Speakers = append(b.Speakers, speaker(place(1, 1, 1), 1, 1))
		b.Speakers[0].Gain = 9
		wantSame(t, name, a.Speakers[0].Gain, e, 7, api.OK)
		wantSame(t, name, a.Speakers[:3][2], e, api.ArraySpeaker{}, api.OK)
	}
}

// R4: the lists of one result share nothing.
func TestListsAreApart(t *testing.T) {
	apart := func(name string, l ...[]int) {
		t.Helper()
		var want [][]int
		for _, one := range l {
			want = append(want, slices.Clone(one))
		}
		for i := range l {
			_ = append(l[i], 77, 78, 79)
			wantRows(t, name, l, api.OK, want...)
		}
		for i := range l {
			l[i][0] += 100
			want[i][0] += 100
			wantRows(t, name, l, api.OK, want...)
		}
	}
	table, _ := array.TableOf(pair(0), places(seat(), place(0, 0, -500), seat()), million*million)
	apart("TableOf", table...)
	o, w, _, _ := array.BestOpen(two())
	apart("BestOpen", o.Open, w.Low, w.High, w.Caps)
	_, again, v, e := array.BestOpen(two())
	wantSame(t, "BestOpen again", v, e, [2]int{2, 1}, api.OK)
	v, e = array.CheckWeights(two(), again)
	wantSame(t, "weights again", v, e, [2]int{2, 1}, api.OK)
	l, _ := array.ParseGains("1 2;3 4")
	l[0][0] = 9
	l, e = array.ParseGains("1 2;3 4")
	wantList(t, "ParseGains", l, e, [2]int{1, 2}, [2]int{3, 4})
}
