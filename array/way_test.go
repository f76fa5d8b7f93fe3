package array_test

import (
	"math/rand"
	"testing"

	"shoebox/api"
	"shoebox/array"
)

// P7.2: travels, numbers and strengths, with the edges.
func TestWays(t *testing.T) {
	for _, c := range []struct {
		a, b            api.Place
		x               api.ArraySound
		travel, numbers api.Range
	}{
		{place(0, 0, 0), place(300, 400, 0), sound(34000, 34000), between(500, 500), between(500, 500)},
		{place(0, 0, 0), place(10, 10, 0), sound(68000, 34000), between(28, 29), between(28, 28)},
		{place(7, 8, 9), place(7, 8, 9), sound(192000, 30000), between(0, 0), between(0, 0)},
		{place(0, 0, 0), place(0, 0, 1), sound(8000, 40000), between(0, 1), between(0, 0)},
		{place(0, 0, 0), place(0, 5, 0), sound(8000, 40000), between(1, 1), between(1, 1)},
		{place(0, 0, 0), place(2, 0, 0), sound(10000, 40000), between(0, 1), between(1, 1)}, // a half is rounded up
		{place(0, 0, 0), place(0, -6, 0), sound(10000, 40000), between(1, 2), between(2, 2)},
		{place(farthest, farthest, farthest), place(-farthest, -farthest, -farthest), sound(192000, 30000), between(110851, 110852), between(110851, 110851)},
		{place(1, 2, 3), place(-2, -2, 3), sound(40000, 40000), between(5, 5), between(5, 5)},
		{place(0, 0, 0), place(1, 1, 0), sound(34000, 34000), between(1, 2), between(1, 1)},
		{place(0, 0, 0), place(4500, 0, 3), sound(40000, 40000), between(4500, 4501), between(4500, 4500)},
	} {
		r, e := array.Travel(c.a, c.b, c.x)
		wantSame(t, "Travel", r, e, c.travel, api.OK)
		r, e = array.Travel(c.b, c.a, c.x)
		wantSame(t, "Travel back", r, e, c.travel, api.OK)
		r, e = array.NumbersOf(c.a, c.b, c.x)
		wantSame(t, "NumbersOf", r, e, c.numbers, api.OK)
		r, e = array.NumbersOf(c.b, c.a, c.x)
		wantSame(t, "NumbersOf back", r, e, c.numbers, api.OK)
	}
}

// P7.2: strengths, with the edges.
func TestStrength(t *testing.T) {
	for _, c := range []struct {
		a, b api.Place
		want api.Range
	}{
		{place(0, 0, 0), place(300, 400, 0), between(2000, 2000)}, {place(0, 0, 0), place(10, 10, 0), between(70706, 70712)},
		{place(0, 0, 0), place(10, 0, 0), between(100000, 100000)}, {place(1, 2, 3), place(1, -8, 3), between(100000, 100000)},
		{place(0, 0, 0), place(6, 8, 0), between(100000, 100000)}, {place(0, 0, 0), place(0, 6, -8), between(100000, 100000)},
		{place(0, 0, 0), place(10, 1, 0), between(99502, 99513)}, {place(0, 0, 0), place(3, 0, 10), between(95776, 95786)},
		{place(farthest, farthest, farthest), place(-farthest, -farthest, -farthest), between(57, 58)},
		{place(0, 0, 0), place(30, 0, 0), between(33333, 33334)},
	} {
		r, e := array.Strength(c.a, c.b)
		wantSame(t, "Strength", r, e, c.want, api.OK)
		r, e = array.Strength(c.b, c.a)
		wantSame(t, "Strength back", r, e, c.want, api.OK)
	}
	for _, b := range places(place(0, 0, 0), place(9, 0, 0), place(0, -9, 0), place(0, 0, 9), place(9, 4, 1), place(5, 5, 7), place(7, 7, 1)) {
		r, e := array.Strength(place(0, 0, 0), b)
		wantWrong(t, "Strength beside", r, e, api.ErrZero)
		r, e = array.Strength(b, place(0, 0, 0))
		wantWrong(t, "Strength beside", r, e, api.ErrZero)
	}
}

// P7.2: the same as in fractions.
func TestWaysSlowly(t *testing.T) {
	r := rand.New(rand.NewSource(72))
	doubtful := 0
	for range 20000 {
		a, b, x := anyPlace(r), anyPlace(r), anySound(r)
		got, e := array.Travel(a, b, x)
		wantSame(t, "Travel", got, e, slowTravel(a, b, x), api.OK)
		got, e = array.NumbersOf(a, b, x)
		wantSame(t, "NumbersOf", got, e, slowNumbers(a, b, x), api.OK)
		if got.Lo < got.Hi {
			doubtful++
		}
		got, e = array.Strength(a, b)
		if squareOf(a, b) < 100 {
			wantWrong(t, "Strength", got, e, api.ErrZero)
		} else {
			wantSame(t, "Strength", got, e, slowStrength(a, b), api.OK)
		}
	}
	if doubtful < 10 {
		t.Errorf("only %d ways had two numbers", doubtful)
	}
}

// P7.2: wrong places and sounds.
func TestWayErrors(t *testing.T) {
	wrong := func(a, b api.Place, x api.ArraySound) {
		t.Helper()
		r, e := array.Travel(a, b, x)
		wantWrong(t, "Travel", r, e, api.ErrRange)
		r, e = array.NumbersOf(a, b, x)
		wantWrong(t, "NumbersOf", r, e, api.ErrRange)
	}
	right := sound(34000, 34000)
	for _, n := range list(farthest+1, -farthest-1, greatestInt, leastInt) {
		for _, p := range places(place(n, 0, 0), place(0, n, 0), place(0, 0, n), place(n, n, n)) {
			for _, other := range places(place(0, 0, 0), p) {
				wrong(p, other, right)
				wrong(other, p, right)
				r, e := array.Strength(p, other)
				wantWrong(t, "Strength", r, e, api.ErrRange)
				r, e = array.Strength(other, p)
				wantWrong(t, "Strength", r, e, api.ErrRange)
			}
		}
	}
	for _, n := range list(0, -1, 7999, 192001, greatestInt, leastInt) {
		wrong(place(0, 0, 0), place(1, 1, 1), sound(n, 34000))
	}
	for _, n := range list(0, -1, 29999, 40001, greatestInt, leastInt) {
		wrong(place(0, 0, 0), place(1, 1, 1), sound(34000, n))
	}
}
