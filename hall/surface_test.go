package hall_test

import (
	"math/big"
	"testing"

	"shoebox/api"
	"shoebox/hall"
)

// P1.3: twice the area and twice the volume.
func TestAreasOfHalls(t *testing.T) {
	for _, c := range []struct {
		name         string
		h            api.Hall
		area, volume int
	}{
		{"box", box(), 4000000, 2400000000},
		{"triangle", triangle(), 1, 3},
		// 10 by 26, and beside it 6 by 14 with two half squares of 6 left away at its ends
		{"wedge", wedge(), 2*(10*26+6*20) - 36 - 36, 8 * (2*(10*26+6*20) - 36 - 36)},
	} {
		area, e := hall.TwiceArea(c.h)
		volume, f := hall.TwiceVolume(c.h)
		if area != c.area || volume != c.volume || e != api.OK || f != api.OK {
			t.Errorf("%s: %d, %d, %d, %d", c.name, area, e, volume, f)
		}
	}
}

// P1.3: areas of surfaces; those of diagonal walls, and of plans with half squares, have two ends.
func TestAreaOf(t *testing.T) {
	for _, c := range []struct {
		name    string
		h       api.Hall
		s       api.HallSetting
		surface int
		want    api.Range
	}{
		{"wall a", box(), low(), 0, exactly(600000)},
		{"wall d, with its curtain", box(), lowDrawn(), 1, exactly(1200000)},
		{"floor", box(), low(), 4, exactly(2000000)},
		{"ceiling", box(), low(), 5, exactly(2000000)},
		{"canopy", box(), low(), 6, exactly(240000)},
		{"canopy from its greatest corner", wedge(), api.HallSetting{Heights: []int{0, 0}}, 10, exactly(35)},
		{"triangle's floor", triangle(), api.HallSetting{}, 3, api.Range{Lo: 0, Hi: 1}},
		{"triangle's ceiling", triangle(), api.HallSetting{}, 4, api.Range{Lo: 0, Hi: 1}},
		// the root of 2 times 3: 4.24
		{"triangle's diagonal", triangle(), api.HallSetting{}, 1, api.Range{Lo: 4, Hi: 5}},
	} {
		if a, e := hall.AreaOf(c.h, c.s, c.surface); a != c.want || e != api.OK {
			t.Errorf("%s: %v, %d", c.name, a, e)
		}
	}
}

// P1.3: the ends of diagonal walls are the nearest ones, for all sizes.
func TestDiagonalAreas(t *testing.T) {
	for _, side := range []int{1, 2, 5, 12, 70, 408, 999, 2378, 4999, 9999, 10000} {
		for _, height := range []int{2, 3, 29, 169, 985, 4999, 5000} {
			h := withPlan(height, api.HallCorner{X: -5000, Y: -5000}, api.HallCorner{X: side - 5000, Y: -5000}, api.HallCorner{X: -5000, Y: side - 5000})
			a, e := hall.AreaOf(h, api.HallSetting{}, 1)
			area := big.NewInt(int64(side * height))
			square := new(big.Int).Mul(area, area)
			want := new(big.Int).Sqrt(square.Add(square, square)).Int64()
			if e != api.OK || int64(a.Lo) != want || int64(a.Hi) != want+1 {
				t.Errorf("%d by %d: %v, %d, want %d", side, height, a, e, want)
			}
		}
	}
}

// P1.3 to P1.6: the error of a surface comes behind those of the hall and the setting, ahead of all others.
func TestNoSuchSurface(t *testing.T) {
	for _, n := range []int{-1, 7, 1 << 62, -1 << 63} {
		p, e := hall.PlaneOf(box(), low(), n)
		wantErrno(t, "PlaneOf", e, api.ErrMissing)
		a, e := hall.AreaOf(box(), low(), n)
		wantErrno(t, "AreaOf", e, api.ErrMissing)
		l, e := hall.Absorbed(box(), low(), n)
		wantErrno(t, "Absorbed", e, api.ErrMissing)
		c, e := hall.Scattered(box(), low(), n)
		wantErrno(t, "Scattered", e, api.ErrMissing)
		x, e := hall.CrossAt(box(), low(), api.HallCross{Surface: n, From: place(45001, 0, 0)})
		wantErrno(t, "CrossAt", e, api.ErrMissing)
		if p != (api.HallPlane{}) || a != (api.Range{}) || l != [api.Bands]int{} || c != 0 || x != (api.HallPoint{}) {
			t.Errorf("beside errors: %v, %v, %v, %d, %v", p, a, l, c, x)
		}
		_, e = hall.AreaOf(box(), api.HallSetting{Heights: []int{2}}, n)
		wantErrno(t, "AreaOf in no setting", e, api.ErrMissing)
		_, e = hall.AreaOf(box(), api.HallSetting{}, n)
		wantErrno(t, "AreaOf in no setting", e, api.ErrShape)
	}
}

// P1.4: the material of a wall is that of its curtain if this is drawn.
func TestMaterials(t *testing.T) {
	wood, lime, felt := [api.Bands]int{100, 200, 300, 400}, [api.Bands]int{0, 1, 2, 3}, [api.Bands]int{1000, 999, 998, 997}
	open := api.HallSetting{Heights: []int{0, 0}}
	drawn := api.HallSetting{Heights: []int{0, 0}, Drawn: []int{1, 6}}
	for _, c := range []struct {
		s         api.HallSetting
		surface   int
		absorbed  [api.Bands]int
		scattered int
	}{
		{open, 0, wood, 50}, {open, 1, wood, 50}, {open, 6, wood, 50}, {open, 7, wood, 50},
		{drawn, 0, wood, 50}, {drawn, 1, felt, 1000}, {drawn, 3, wood, 50}, {drawn, 6, felt, 1000},
		{open, 8, wood, 50}, {open, 9, lime, 0}, {open, 10, felt, 1000}, {open, 11, lime, 0},
	} {
		l, e := hall.Absorbed(wedge(), c.s, c.surface)
		if l != c.absorbed || e != api.OK {
			t.Errorf("Absorbed %d in %v: %v, %d", c.surface, c.s, l, e)
		}
		n, e := hall.Scattered(wedge(), c.s, c.surface)
		if n != c.scattered || e != api.OK {
			t.Errorf("Scattered %d in %v: %d, %d", c.surface, c.s, n, e)
		}
	}
}

// P1.4: the absorption areas of the examples, and of a hall in which each surface has another share.
func TestAbsorptionArea(t *testing.T) {
	for band := range api.Bands {
		if a, e := hall.AbsorptionArea(box(), low(), band); a != exactly(808000) || e != api.OK {
			t.Errorf("band %d: %v, %d", band, a, e)
		}
		if a, e := hall.AbsorptionArea(box(), lowDrawn(), band); a != exactly(1288000) || e != api.OK {
			t.Errorf("band %d with the curtain: %v, %d", band, a, e)
		}
	}
	for _, band := range []int{-1, 4, 1 << 62} {
		if a, e := hall.AbsorptionArea(box(), low(), band); a != (api.Range{}) || e != api.ErrMissing {
			t.Errorf("band %d: %v, %d", band, a, e)
		}
	}
	for _, n := range []int{0, 1, 5} {
		s, _ := hall.SettingAt(wedge(), n)
		for band := range api.Bands {
			testAbsorption(t, wedge(), s, band)
		}
	}
	// nothing is absorbed
	if a, e := hall.AbsorptionArea(triangle(), api.HallSetting{}, 0); a != exactly(0) || e != api.OK {
		t.Errorf("triangle: %v, %d", a, e)
	}
}

// P1.4: sums are rounded once, behind the division, not surface by surface.
func TestAbsorptionIsRoundedOnce(t *testing.T) {
	h := triangle()
	h.Materials[0].Absorbed = [api.Bands]int{1, 500, 999, 1000}
	// walls 3, from 4 to 5, and 3; floor and ceiling from 0 to 1 each
	for band, want := range []api.Range{{Lo: 0, Hi: 1}, {Lo: 5, Hi: 7}, {Lo: 9, Hi: 13}, {Lo: 10, Hi: 13}} {
		if a, e := hall.AbsorptionArea(h, api.HallSetting{}, band); a != want || e != api.OK {
			t.Errorf("band %d: %v, %d", band, a, e)
		}
	}
	// 999 / 1000 and 1001 / 1000, just off a whole number
	thin := withPlan(3, api.HallCorner{X: 0, Y: 0}, api.HallCorner{X: 333, Y: 0}, api.HallCorner{X: 333, Y: 1}, api.HallCorner{X: 0, Y: 1})
	thin.Materials = append(thin.Materials, api.HallMaterial{Name: "one", Absorbed: [api.Bands]int{1, 0, 0, 0}})
	thin.Walls[0].Material = "one"
	if a, e := hall.AbsorptionArea(thin, api.HallSetting{}, 0); a != (api.Range{Lo: 0, Hi: 1}) || e != api.OK {
		t.Errorf("999: %v, %d", a, e)
	}
	square := withPlan(7, api.HallCorner{X: 0, Y: 0}, api.HallCorner{X: 143, Y: 0}, api.HallCorner{X: 143, Y: 1}, api.HallCorner{X: 0, Y: 1})
	square.Materials, square.Walls[0].Material = thin.Materials, "one"
	if a, e := hall.AbsorptionArea(square, api.HallSetting{}, 0); a != (api.Range{Lo: 1, Hi: 2}) || e != api.OK {
		t.Errorf("1001: %v, %d", a, e)
	}
}

func testAbsorption(t *testing.T, h api.Hall, s api.HallSetting, band int) {
	t.Helper()
	names, _ := hall.Surfaces(h)
	low, high := 0, 0
	for n := range names {
		area, _ := hall.AreaOf(h, s, n)
		absorbed, _ := hall.Absorbed(h, s, n)
		sides := 1
		if n >= len(h.Walls)+2 {
			sides = 2
		}
		low += sides * area.Lo * absorbed[band]
		high += sides * area.Hi * absorbed[band]
	}
	want := api.Range{Lo: low / 1000, Hi: high / 1000}
	if high%1000 > 0 {
		want.Hi++
	}
	if a, e := hall.AbsorptionArea(h, s, band); a != want || e != api.OK {
		t.Errorf("%v, band %d: %v, %d, want %v", s, band, a, e, want)
	}
}

// P1.5: the planes of all kinds of surfaces.
func TestPlaneOf(t *testing.T) {
	s := api.HallSetting{Heights: []int{2, 1}, Drawn: []int{1}}
	for n, want := range []api.HallPlane{
		plane(api.PlaneY, 0), plane(api.PlaneX, 10), plane(api.PlaneLess, 4), plane(api.PlaneX, 16),
		plane(api.PlaneSum, 36), plane(api.PlaneY, 26), plane(api.PlaneX, 0), plane(api.PlaneX, 0),
		plane(api.PlaneZ, 0), plane(api.PlaneZ, 8), plane(api.PlaneZ, 7), plane(api.PlaneZ, 6),
	} {
		if p, e := hall.PlaneOf(wedge(), s, n); p != want || e != api.OK {
			t.Errorf("%d: %v, %d", n, p, e)
		}
	}
	if p, e := hall.PlaneOf(box(), low(), 1); p != plane(api.PlaneX, 1000) || e != api.OK {
		t.Errorf("b: %v, %d", p, e)
	}
	for n, s := range []api.HallSetting{low(), high()} {
		if p, e := hall.PlaneOf(box(), s, 6); p != plane(api.PlaneZ, 400+100*n) || e != api.OK {
			t.Errorf("k in %v: %v, %d", s, p, e)
		}
	}
}
