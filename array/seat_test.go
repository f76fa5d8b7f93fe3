package array_test

import (
	"math/rand"
	"slices"
	"testing"

	"shoebox/api"
	"shoebox/array"
)

// P7.3: delays that bring all sound together, with the edges.
func TestAligned(t *testing.T) {
	with := func(a api.Array, delays ...int) api.Array {
		a.Speakers = slices.Clone(a.Speakers)
		for i, n := range delays {
			a.Speakers[i].Delay = n
		}
		return a
	}
	third := plainArray(speaker(place(0, 0, 0), 1, 7), speaker(place(0, 0, 900), 0, 8), speaker(place(300, 400, 500), 3, mostDelay))
	for _, c := range []struct {
		a    api.Array
		seat api.Place
		want api.Array
	}{
		{pair(400), seat(), pair(100)}, {pair(0), seat(), pair(100)}, {pair(400), place(0, 0, -100), with(pair(0), 100, 0)},
		{third, seat(), with(third, 0, 100, 0)}, {near(5), place(10, 10, 0), near(0)}, {doubtful(1, 9), doubtfulSeat(), doubtful(1, 0)},
	} {
		a, e := array.Aligned(c.a, c.seat)
		wantArray(t, "Aligned", a, e, c.want, api.OK)
	}
}

// P7.3: a delay may be 10000, and no more.
func TestAlignedLarge(t *testing.T) {
	a := api.Array{Rate: 192000, Speed: 32000, Speakers: []api.ArraySpeaker{speaker(place(0, 0, 0), 1, 0), speaker(place(1665, 0, 0), 1, 0)}}
	got, e := array.Aligned(a, place(1675, 0, 0)) // 60 and 10050 samples away
	want := api.Array{Rate: a.Rate, Speed: a.Speed, Speakers: slices.Clone(a.Speakers)}
	want.Speakers[1].Delay = 9990
	wantArray(t, "Aligned", got, e, want, api.OK)
	a.Rate = 32000
	a.Speakers[0].At, a.Speakers[1].At = place(-5000, 0, 0), place(5000, 0, 0)
	got, e = array.Aligned(a, place(5000, 10, 0)) // 10000.005 and 10 samples away
	want = api.Array{Rate: a.Rate, Speed: a.Speed, Speakers: slices.Clone(a.Speakers)}
	want.Speakers[1].Delay = 9990
	wantArray(t, "Aligned", got, e, want, api.OK)
	for _, c := range []struct{ rate, delay int }{{32032, mostDelay}, {32033, mostDelay}, {32034, 10001}, {192000, 59940}} {
		a.Rate = c.rate
		got, e := array.Aligned(a, place(5000, 10, 0))
		if c.delay > mostDelay {
			wantArray(t, "Aligned too late", got, e, api.Array{}, api.ErrLarge)
			continue
		}
		want.Rate, want.Speakers[1].Delay = c.rate, c.delay
		wantArray(t, "Aligned", got, e, want, api.OK)
	}
}

// allNumbers are the nominal numbers and the delays, together.
func allNumbers(a api.Array, at api.Place) []int {
	var l []int
	for _, s := range a.Speakers {
		l = append(l, slowNumbers(s.At, at, sound(a.Rate, a.Speed)).Lo+s.Delay)
	}
	return l
}

// P7.3, P7.8: all numbers are the same, and one delay is 0; aligned again an array stays.
func TestAlignedSlowly(t *testing.T) {
	r := rand.New(rand.NewSource(78))
	late := 0
	for range 3000 {
		a := anyArray(r, 8)
		at := anySeat(r, a)
		got, e := array.Aligned(a, at)
		for i := range a.Speakers {
			a.Speakers[i].Delay = 0
		}
		numbers := allNumbers(a, at)
		for i, n := range numbers {
			a.Speakers[i].Delay = slices.Max(numbers) - n
		}
		if slices.Max(numbers)-slices.Min(numbers) > mostDelay {
			wantArray(t, "Aligned too late", got, e, api.Array{}, api.ErrLarge)
			late++
			continue
		}
		wantArray(t, "Aligned", got, e, a, api.OK)
		again, e := array.Aligned(got, at)
		wantArray(t, "Aligned again", again, e, got, api.OK)
	}
	if late < 100 || late > 2900 {
		t.Errorf("%d were too late", late)
	}
}

// P7.8: no other delays give a greater size than all gains in one direction.
func TestAlignedIsLoudest(t *testing.T) {
	r := rand.New(rand.NewSource(781))
	for range 500 {
		a := anyArray(r, 4)
		at := anySeat(r, a)
		b, e := array.Aligned(a, at)
		if e != api.OK {
			continue
		}
		sum := 0
		for _, s := range a.Speakers {
			sum += s.Gain * slowStrength(s.At, at).Lo
		}
		p, e := array.PressureAt(b, at)
		if int(real(p)*real(p)+imag(p)*imag(p)) != sum*sum || real(p) != 0 && imag(p) != 0 || e != api.OK {
			t.Errorf("%v at %v: %v, want the size %d", b, at, p, sum)
		}
		for range 20 {
			for i := range b.Speakers {
				b.Speakers[i].Delay = r.Intn(mostDelay + 1)
			}
			p, _ := array.PressureAt(b, at)
			if re, im := int(real(p)), int(imag(p)); re*re+im*im > sum*sum {
				t.Errorf("%v at %v: %v, more than %d", b, at, p, sum)
			}
		}
	}
}

// P7.3: tables, with the edges.
func TestTableOf(t *testing.T) {
	for _, c := range []struct {
		a     api.Array
		seats []api.Place
		unit  int
		want  [][]int
	}{
		{pair(0), places(seat()), million * million, rows(list(4, 6))},
		{pair(0), places(seat()), 61881188119, rows(list(64, 100))}, // a little less than 101 is left in 6.25 * 10^12
		{pair(0), places(seat(), place(0, 0, -500), seat()), 1000000000000, rows(list(4, 6), list(4, 2), list(4, 6))},
		{pair(0), places(seat(), seat(), seat(), seat()), 4000000000000, rows(list(1, 1), list(1, 1), list(1, 1), list(1, 1))},
		{pair(0), places(seat()), 4000000000001, rows(list(0, 1))}, {pair(0), places(seat()), 1000000000000000000, rows(list(0, 0))},
		{plainArray(speaker(place(0, 0, 0), 0, 9)), places(place(10, 0, 0)), 100000000000000, rows(list(100))}, // whatever the gain is
		{near(3), places(place(10, 10, 0)), 100000000000000, rows(list(49))},
		{plainArray(make([]api.ArraySpeaker, 3)...), places(seat()), 40000000000, rows(list(100, 100, 100))},
	} {
		l, e := array.TableOf(c.a, c.seats, c.unit)
		wantRows(t, "TableOf", l, e, c.want...)
	}
}

// P7.3: the same as after the definitions.
func TestTableOfSlowly(t *testing.T) {
	r := rand.New(rand.NewSource(731))
	large := 0
	for range 3000 {
		a := anyArray(r, 3)
		var seats []api.Place
		for range from(r, 1, 4) {
			seats = append(seats, anySeat(r, a))
		}
		unit := from(r, 1, 1000) * anyOf(r, 1, 1000000000, 1000000000, 10000000000, 10000000000000)
		var want [][]int
		isLarge := false
		for _, at := range seats {
			var row []int
			for _, s := range a.Speakers {
				n := slowNumber(s, at, unit)
				row = append(row, n)
				isLarge = isLarge || n > 100
			}
			want = append(want, row)
		}
		l, e := array.TableOf(a, seats, unit)
		if isLarge {
			wantSame(t, "TableOf", len(l), e, 0, api.ErrLarge)
			large++
			continue
		}
		wantRows(t, "TableOf", l, e, want...)
	}
	if large < 100 || large > 2900 {
		t.Errorf("%d were too large", large)
	}
}

// P7.3: the errors of tables, in their order.
func TestTableErrors(t *testing.T) {
	wrong := func(a api.Array, seats []api.Place, unit int, want api.Errno) {
		t.Helper()
		l, e := array.TableOf(a, seats, unit)
		wantSame(t, "TableOf", len(l), e, 0, want)
	}
	const unit = 1000000000000
	many := plainArray(make([]api.ArraySpeaker, 4)...)
	outside, beside, loud := place(0, 0, 5001), place(0, 0, 109), place(0, 0, 89)
	for _, n := range list(0, -1, 1000000000000000001, greatestInt, leastInt) {
		wrong(pair(0), places(seat()), n, api.ErrRange)
		wrong(pair(0), places(beside), n, api.ErrRange)
		wrong(pair(0), nil, n, api.ErrShape)
		wrong(many, []api.Place{}, n, api.ErrShape)
		wrong(many, places(seat()), n, api.ErrLarge)
		wrong(many, places(outside), n, api.ErrLarge)
		wrong(pair(0), slices.Repeat(places(outside), 5), n, api.ErrLarge)
		wrong(pair(mostDelay+1), nil, n, api.ErrRange)
	}
	wrong(pair(0), slices.Repeat(places(seat()), 5), unit, api.ErrLarge)
	wrong(many, places(seat()), unit, api.ErrLarge)
	wrong(pair(0), places(outside), unit, api.ErrRange)
	wrong(pair(0), places(beside), unit, api.ErrZero)
	wrong(pair(0), places(seat(), seat(), seat(), place(leastInt, 0, 0)), unit, api.ErrRange)
	wrong(pair(0), places(seat(), seat(), seat(), beside), unit, api.ErrZero)
	wrong(pair(0), places(seat()), 61881188118, api.ErrLarge)
	wrong(pair(0), places(seat(), loud), unit, api.ErrLarge)
	// the first seat with an error decides, and of its errors that of the place, then that of any loudspeaker
	wrong(pair(0), places(loud, beside, outside), unit, api.ErrLarge)
	wrong(pair(0), places(beside, loud, outside), unit, api.ErrZero)
	wrong(pair(0), places(outside, loud, beside), unit, api.ErrRange)
	wrong(pair(0), places(seat(), outside, loud), unit, api.ErrRange)
	wrong(plainArray(speaker(place(0, 0, 11), 0, 0), speaker(place(0, 0, 0), 0, 0)), places(place(0, 0, 0)), 1, api.ErrZero)
	wrong(plainArray(speaker(place(0, 0, 0), 0, 0), speaker(place(0, 0, 11), 0, 0)), places(place(0, 0, 0)), 1, api.ErrZero)
	wrong(plainArray(speaker(place(0, 0, 5000), 0, 0)), places(place(0, 0, 5001)), 1, api.ErrRange)
}
