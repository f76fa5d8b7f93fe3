package energy_test

import (
	"slices"
	"testing"

	"shoebox/api"
	"shoebox/energy"
	"shoebox/hall"
	"shoebox/image"
)

func flutter(a, b, square int) api.EnergyFlutter {
	return api.EnergyFlutter{A: a, B: b, Square: square}
}

// P3.3: what flutters, and what does not.
func TestFlutters(t *testing.T) {
	none := api.HallSetting{}
	a, b, floor := flutter(0, 2, 16000000), flutter(1, 3, 4000000), flutter(4, 5, 1440000)
	for _, c := range []struct {
		name     string
		h        api.Hall
		s        api.HallSetting
		from, to api.Place
		want     []api.EnergyFlutter
	}{
		{"in the middle of the box", box(), none, place(500, 1000, 300), place(510, 1010, 310), []api.EnergyFlutter{a, b, floor}},
		{"from the lower to the upper part", box(), none, place(500, 1000, 100), place(510, 1010, 500), []api.EnergyFlutter{a, b, floor}},
		{"far apart", box(), none, place(1, 1, 1), place(999, 1999, 599), []api.EnergyFlutter{a, b, floor}},
		{"below the canopy", dressed(), heights(0), place(500, 700, 100), place(510, 710, 200), []api.EnergyFlutter{a, b, flutter(4, 6, 4*400*400)}},
		{"below the canopy at 500", dressed(), heights(1), place(500, 700, 100), place(510, 710, 200), []api.EnergyFlutter{a, b, flutter(4, 6, 4*500*500)}},
		{"above the canopy", dressed(), heights(0), place(500, 700, 450), place(510, 710, 550), []api.EnergyFlutter{a, b, flutter(5, 6, 4*200*200)}},
		{"beside the canopy", dressed(), heights(0), place(500, 1700, 450), place(510, 1710, 550), []api.EnergyFlutter{a, b, floor}},
		{"past the canopy one way, against it the other", dressed(), heights(0), place(500, 700, 300), place(510, 710, 450), []api.EnergyFlutter{b}},
		{"between canopies", great(), heights(0, 0, 0, 0), place(5, 7, 2100), place(1, 2, 2900), []api.EnergyFlutter{flutter(0, 2, 400000000), flutter(1, 3, 400000000), flutter(7, 8, 4000000)}},
		{"diagonal walls", octagon(), none, place(12, 12, 5), place(12, 13, 5), []api.EnergyFlutter{
			flutter(0, 4, 4*24*24), flutter(1, 5, 2*34*34), flutter(2, 6, 4*24*24), flutter(3, 7, 2*34*34), flutter(8, 9, 400),
		}},
		{"behind a block", bay(), none, place(10, 25, 5), place(30, 25, 5), nil},
		{"beside a block", bay(), none, place(5, 20, 4), place(6, 20, 6), []api.EnergyFlutter{flutter(0, 6, 3600), flutter(5, 7, 900), flutter(8, 9, 400)}},
		{"below a block", bay(), none, place(20, 5, 4), place(21, 6, 6), []api.EnergyFlutter{flutter(0, 4, 400), flutter(1, 7, 6400), flutter(8, 9, 400)}},
	} {
		l, e := energy.Flutters(c.h, c.s, ask(c.from, c.to, 0))
		if !slices.Equal(l, c.want) || e != api.OK {
			t.Errorf("%s: %v, %d, want %v", c.name, l, e, c.want)
		}
	}
}

// P3.3: only the path that begins at the first one of both counts, whatever the order of the ask.
func TestFluttersByTheFirst(t *testing.T) {
	// a way from the wall n0 to the wall n2 and on has another end than one that begins at n2
	h := plan(10, 0, 0, 100, 0, 100, 10, 30, 10, 30, 20, 0, 20)
	isOther := 0
	for x := 1; x < 100; x += 3 {
		for y := 1; y < 10; y += 2 {
			for order := range 5 {
				a := ask(place(5, 5, 5), place(x, y, 6), order)
				l, e := energy.Flutters(h, api.HallSetting{}, a)
				isThere := slices.Contains(l, flutter(0, 2, 400))
				_, first := image.PathOf(h, api.HallSetting{}, a, list(0, 2, 0, 2))
				_, second := image.PathOf(h, api.HallSetting{}, a, list(2, 0, 2, 0))
				if e == api.ErrZero {
					continue
				}
				if isThere != (first == api.OK) || e != api.OK {
					t.Errorf("to %d, %d: %v, %d", x, y, l, e)
				}
				if first != second {
					isOther++
				}
			}
		}
	}
	if isOther == 0 {
		t.Errorf("both paths are always alike")
	}
}

// square is that of the distance of two places.
func square(a, b api.Place) int {
	x, y, z := a.X-b.X, a.Y-b.Y, a.Z-b.Z
	return x*x + y*y + z*z
}

// P3.3: all that flutters: the period is as long as the way of an image behind both surfaces.
func TestFluttersSlowly(t *testing.T) {
	for c, a := range listened() {
		names, _ := hall.Surfaces(c.h)
		var want []api.EnergyFlutter
		for i := range names {
			for k := i + 1; k < len(names); k++ {
				p, _ := hall.PlaneOf(c.h, c.s, i)
				q, _ := hall.PlaneOf(c.h, c.s, k)
				_, e := image.PathOf(c.h, c.s, a, list(i, k, i, k))
				if p.Kind == q.Kind && e == api.OK {
					behind, _ := image.ImageAt(c.h, c.s, a.From, list(i, k))
					want = append(want, flutter(i, k, square(a.From, behind)))
				}
			}
		}
		if l, e := energy.Flutters(c.h, c.s, a); !slices.Equal(l, want) || e != api.OK {
			t.Errorf("%s: %v, %d, want %v", c.name, l, e, want)
		}
	}
}

// P3.3: the errors of the ask.
func TestFluttersErrors(t *testing.T) {
	for _, c := range askErrors {
		l, e := energy.Flutters(box(), api.HallSetting{}, c.x)
		wantErrno(t, "Flutters", e, c.want)
		if e != api.OK && len(l) != 0 {
			t.Errorf("%v: %v beside %d", c.x, l, e)
		}
	}
}

// P3.3: periods; the surfaces do not matter.
func TestPeriodOf(t *testing.T) {
	for _, c := range []struct {
		f     api.EnergyFlutter
		speed int
		want  api.Range
	}{
		{flutter(4, 5, 1440000), 40000, exactly(30000)},
		{flutter(-1, leastInt, 1440000), 40000, exactly(30000)},
		{flutter(0, 0, 1440000), 34000, from(35294, 35295)},
		{flutter(0, 0, 1), 30000, from(33, 34)},
		{flutter(0, 0, 2), 40000, from(35, 36)},
		{flutter(0, 0, 24300000000), 30000, from(5196152, 5196153)},
	} {
		r, e := energy.PeriodOf(c.f, c.speed)
		wantRange(t, "PeriodOf", r, c.want, e)
		delay, _ := image.DelayOf(pathOf(c.f.Square), c.speed)
		wantRange(t, "DelayOf", delay, c.want, e)
	}
}

// P3.3: the errors of the square, and those of the speed behind them.
func TestPeriodErrors(t *testing.T) {
	for _, c := range []struct{ square, speed int }{
		{0, 34000}, {-1, 34000}, {24300000001, 34000}, {leastInt, 34000}, {greatestInt, 34000},
		{1, 29999}, {1, 40001}, {1, 0}, {1, leastInt}, {0, 0},
	} {
		r, e := energy.PeriodOf(flutter(4, 5, c.square), c.speed)
		if r != (api.Range{}) || e != api.ErrRange {
			t.Errorf("%v: %v, %d", c, r, e)
		}
	}
}
