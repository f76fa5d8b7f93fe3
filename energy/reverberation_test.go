package energy_test

import (
	"math"
	"math/rand"
	"testing"

	"shoebox/api"
	"shoebox/energy"
	"shoebox/hall"
)

// lined is a box whose walls, floor and ceiling absorb different things in all bands.
func lined(x, y, height, walls, floor, ceiling int) api.Hall {
	h := plan(height, 0, 0, x, 0, x, y, 0, y)
	return dress(h, walls, floor, ceiling)
}

func dress(h api.Hall, walls, floor, ceiling int) api.Hall {
	h.Materials = []api.HallMaterial{
		material("w", 0, walls, walls, walls, walls),
		material("f", 500, floor, floor, floor, floor),
		material("c", 1000, ceiling, ceiling, ceiling, ceiling),
	}
	h.Floor, h.Ceiling = "f", "c"
	return h
}

// hung is a great hall in which almost nothing absorbs: a canopy of so much area alone, a thousandth on both sides.
func hung(area int) api.Hall {
	h := dress(plan(5000, -5000, -5000, 5000, -5000, 5000, 5000, -5000, 5000), 0, 0, 0)
	h.Materials = append(h.Materials, material("k", 0, 1, 1, 1, 1))
	h.Canopies = []api.HallCanopy{{Name: "k", Material: "k", From: corner(0, 0), To: corner(area, 1), Heights: []int{1000}}}
	return h
}

// P3.5: surfaces and mean paths.
func TestSurfaceOf(t *testing.T) {
	for _, c := range []struct {
		name          string
		h             api.Hall
		s             api.HallSetting
		surface, path api.Range
	}{
		{"box", box(), api.HallSetting{}, exactly(7600000), from(631, 632)},
		{"dressed: the canopy twice", dressed(), heights(0), exactly(8080000), from(594, 595)},
		{"dressed, drawn", dressed(), api.HallSetting{Heights: list(1), Drawn: list(1)}, exactly(8080000), from(594, 595)},
		{"the root of 2, and half a square", corner3(), api.HallSetting{}, from(11386, 11389), from(6, 7)},
		{"a mean path that is whole", plan(600, 0, 0, 600, 0, 600, 600, 0, 600), api.HallSetting{}, exactly(2160000), exactly(400)},
		{"great", great(), heights(0, 0, 0, 0), exactly(1199680032), from(1667, 1668)},
		{"small", plan(2, 0, 0, 1, 0, 0, 1), api.HallSetting{}, from(6, 9), from(0, 1)},
	} {
		r, e := energy.SurfaceOf(c.h, c.s)
		wantRange(t, c.name, r, c.surface, e)
		r, e = energy.MeanPath(c.h, c.s)
		wantRange(t, c.name+": mean path", r, c.path, e)
	}
}

// P3.5: reverberations, and how often sound hits the surfaces.
func TestReverberation(t *testing.T) {
	b, bu := heights(0), api.HallSetting{Heights: list(1), Drawn: list(1)}
	for _, c := range []struct {
		name                 string
		h                    api.Hall
		s                    api.HallSetting
		x                    api.EnergyAir
		sabine, hits, eyring api.Range
	}{
		{"box", box(), api.HallSetting{}, plain(), from(2566, 2567), exactly(132), from(2433, 2453)},
		{"box: air is not counted", box(), api.HallSetting{}, airOf(2, 100000), from(2566, 2567), exactly(132), from(2433, 2453)},
		{"box, slow", box(), api.HallSetting{}, api.EnergyAir{Speed: 30000}, from(2908, 2909), exactly(132), from(2757, 2779)},
		{"box, fast", box(), api.HallSetting{}, api.EnergyAir{Speed: 40000}, from(2181, 2182), exactly(132), from(2068, 2085)},
		{"dressed, band 0", dressed(), b, plain(), from(3489, 3490), exactly(193), from(3354, 3373)},
		{"dressed, band 1", dressed(), b, airOf(1, 0), from(6031, 6032), exactly(339), from(5905, 5924)},
		{"dressed, band 0, drawn", dressed(), bu, plain(), from(2122, 2123), exactly(115), from(1991, 2010)},
		{"corner3", corner3(), api.HallSetting{}, plain(), from(25, 26), exactly(132), from(24, 25)},
		{"all is absorbed", dress(box(), 1000, 1000, 1000), api.HallSetting{}, plain(), from(256, 257), exactly(1), from(0, 19)},
		{"all is absorbed, and nothing whole", dress(corner3(), 1000, 1000, 1000), api.HallSetting{}, plain(), from(2, 3), from(1, 2), from(0, 1)},
		{"gone just at a millionth", dress(box(), 900, 900, 900), api.HallSetting{}, plain(), from(285, 286), exactly(6), from(92, 112)},
		{"more hits if rounded up", lined(1000, 2000, 1000, 10, 27, 14), api.HallSetting{}, plain(), from(22892, 22893), from(966, 967), from(22705, 22753)},
		{"as many hits as can be", lined(1000, 2000, 700, 3, 36, 14), api.HallSetting{}, plain(), from(20208, 20210), exactly(1000), from(20065, 20087)},
		{"as many hits at most", lined(1000, 2000, 640, 2, 36, 14), api.HallSetting{}, plain(), from(19320, 19322), from(999, 1000), from(19169, 19208)},
	} {
		all := scene{c.name, c.h, c.s}
		r, e := energy.Sabine(c.h, c.s, c.x)
		wantRange(t, c.name+": Sabine", r, c.sabine, e)
		if slow := slowSabine(all, c.x); slow != c.sabine {
			t.Errorf("%s: Sabine, slowly %v", c.name, slow)
		}
		r, e = energy.Hits(c.h, c.s, c.x)
		wantRange(t, c.name+": Hits", r, c.hits, e)
		if slow := slowHits(all, c.x.Band); slow != c.hits {
			t.Errorf("%s: Hits, slowly %v", c.name, slow)
		}
		r, e = energy.Eyring(c.h, c.s, c.x)
		wantRange(t, c.name+": Eyring", r, c.eyring, e)
		if slow := slowEyring(all, c.x); slow != c.eyring {
			t.Errorf("%s: Eyring, slowly %v", c.name, slow)
		}
	}
}

// P3.5: nothing absorbs, or so little that it may be nothing; or sound hits the surfaces too often.
func TestReverberationErrors(t *testing.T) {
	for _, c := range []struct {
		name         string
		h            api.Hall
		sabine, hits api.Errno
	}{
		{"nothing absorbs", dress(box(), 0, 0, 0), api.ErrZero, api.ErrZero},
		{"less than 1 at least", dress(corner3(), 0, 8, 8), api.ErrZero, api.ErrZero},
		{"1 at least", dress(corner3(), 0, 9, 9), api.OK, api.ErrLarge},
		{"a canopy, less than 1", hung(499), api.ErrZero, api.ErrZero},
		{"no share is lost, but for rounding", hung(1000), api.OK, api.ErrLarge},
		{"one hit too many", lined(1000, 2000, 700, 2, 38, 14), api.OK, api.ErrLarge},
		{"too many at most", dress(corner3(), 13, 80, 80), api.OK, api.ErrLarge},
	} {
		s := api.HallSetting{Heights: make([]int, len(c.h.Canopies))}
		r, e := energy.Sabine(c.h, s, plain())
		wantErrno(t, c.name+": Sabine", e, c.sabine)
		if e != api.OK && r != (api.Range{}) || e == api.OK && r != slowSabine(scene{c.name, c.h, s}, plain()) {
			t.Errorf("%s: Sabine: %v", c.name, r)
		}
		r, e = energy.Hits(c.h, s, plain())
		wantErrno(t, c.name+": Hits", e, c.hits)
		q, e := energy.Eyring(c.h, s, plain())
		wantErrno(t, c.name+": Eyring", e, c.hits)
		if r != (api.Range{}) || q != (api.Range{}) {
			t.Errorf("%s: %v, %v", c.name, r, q)
		}
	}
}

// The hits that are too many at most are not too many at least.
func TestTooManyAtMost(t *testing.T) {
	if hits := slowHits(scene{h: dress(corner3(), 13, 80, 80)}, 0); hits.Lo > 1000 || hits.Hi <= 1000 {
		t.Errorf("hits %v", hits)
	}
}

// P3.5: the errors of the air, and that nothing absorbs behind them.
func TestReverberationAirErrors(t *testing.T) {
	mute := dress(box(), 0, 0, 0)
	for _, c := range airErrors {
		for _, h := range []api.Hall{box(), mute} {
			want := c.want
			if want == api.OK && h.Floor == mute.Floor {
				want = api.ErrZero
			}
			r, e := energy.Sabine(h, api.HallSetting{}, c.x)
			wantErrno(t, "Sabine", e, want)
			q, e := energy.Hits(h, api.HallSetting{}, c.x)
			wantErrno(t, "Hits", e, want)
			p, e := energy.Eyring(h, api.HallSetting{}, c.x)
			wantErrno(t, "Eyring", e, want)
			if want != api.OK && (r != api.Range{} || q != api.Range{} || p != api.Range{}) {
				t.Errorf("%v: %v, %v, %v", c.x, r, q, p)
			}
		}
	}
}

// anyMaterials is a hall with other materials; all of them absorb something, so that there are not too many hits.
func anyMaterials(r *rand.Rand, h api.Hall) api.Hall {
	var l []api.HallMaterial
	for _, m := range h.Materials {
		for k := range m.Absorbed {
			m.Absorbed[k] = 20 + r.Intn(list(30, 981)[r.Intn(2)])
		}
		l = append(l, m)
	}
	h.Materials = l
	return h
}

// P3.5: reverberations as they follow from the definition. P3.10: at least one hit, and at most the greatest ones.
func TestReverberationSlowly(t *testing.T) {
	r := rand.New(rand.NewSource(1))
	for _, c := range scenes() {
		for range 20 {
			c.h = anyMaterials(r, c.h)
			x := anyAir(r)
			got, e := energy.SurfaceOf(c.h, c.s)
			s := surfaceEnds(c)
			wantRange(t, c.name+": SurfaceOf", got, rangeOf(s[0], s[1]), e)
			got, e = energy.MeanPath(c.h, c.s)
			wantRange(t, c.name+": MeanPath", got, slowMeanPath(c), e)
			got, e = energy.Sabine(c.h, c.s, x)
			wantRange(t, c.name+": Sabine", got, slowSabine(c, x), e)
			got, e = energy.Eyring(c.h, c.s, x)
			wantRange(t, c.name+": Eyring", got, slowEyring(c, x), e)
			got, e = energy.Hits(c.h, c.s, x)
			wantRange(t, c.name+": Hits", got, slowHits(c, x.Band), e)
			if got.Lo < 1 || got.Lo > got.Hi {
				t.Errorf("%s: hits %v", c.name, got)
			}
		}
	}
}

// measure is the volume of a hall, its surface and what of it absorbs, in floats.
func measure(c scene, band int) (volume, surface, absorbs float64) {
	area := 0.0
	for i, a := range c.h.Corners {
		b := c.h.Corners[(i+1)%len(c.h.Corners)]
		area += float64(a.X*b.Y-b.X*a.Y) / 2
	}
	names, _ := hall.Surfaces(c.h)
	for n := range names {
		of := area
		if n < len(c.h.Walls) {
			a, b := c.h.Corners[n], c.h.Corners[(n+1)%len(c.h.Corners)]
			of = math.Hypot(float64(b.X-a.X), float64(b.Y-a.Y)) * float64(c.h.Height)
		} else if k := n - len(c.h.Walls) - 2; k >= 0 {
			a, b := c.h.Canopies[k].From, c.h.Canopies[k].To
			of = 2 * math.Abs(float64((b.X-a.X)*(b.Y-a.Y)))
		}
		absorbed, _ := hall.Absorbed(c.h, c.s, n)
		surface += of
		absorbs += of * float64(absorbed[band]) / 1000
	}
	return area * float64(c.h.Height), surface, absorbs
}

func wantBetween(t *testing.T, what string, n float64, ends api.Range) {
	t.Helper()
	// floats are not exact
	const slack = 1e-9
	if n < float64(ends.Lo)*(1-slack) || n > float64(ends.Hi)*(1+slack) {
		t.Errorf("%s: %g is not in %v", what, n, ends)
	}
}

// P3.5: what the formulas of Sabine and Eyring tell lies within the ends.
func TestFormulas(t *testing.T) {
	r := rand.New(rand.NewSource(2))
	for _, c := range scenes() {
		for range 20 {
			c.h = anyMaterials(r, c.h)
			x := anyAir(r)
			volume, surface, absorbs := measure(c, x.Band)
			got, _ := energy.SurfaceOf(c.h, c.s)
			wantBetween(t, c.name+": SurfaceOf", surface, got)
			got, _ = energy.MeanPath(c.h, c.s)
			wantBetween(t, c.name+": MeanPath", 4*volume/surface, got)
			decay := 24 * math.Log(10) * 1000 * volume / float64(x.Speed)
			got, _ = energy.Sabine(c.h, c.s, x)
			wantBetween(t, c.name+": Sabine", decay/absorbs, got)
			got, _ = energy.Eyring(c.h, c.s, x)
			wantBetween(t, c.name+": Eyring", -decay/surface/math.Log1p(-absorbs/surface), got)
		}
	}
}

// P3.10: a curtain that absorbs more makes no end of a reverberation greater.
func TestCurtains(t *testing.T) {
	r := rand.New(rand.NewSource(3))
	for range 200 {
		h := anyMaterials(r, wedge())
		x := anyAir(r)
		open := heights(r.Intn(3), r.Intn(2))
		drawn := api.HallSetting{Heights: open.Heights, Drawn: list(1)}
		// the wall 1 is of w, its curtain of u
		if h.Materials[2].Absorbed[x.Band] < h.Materials[0].Absorbed[x.Band] {
			open, drawn = drawn, open
		}
		for name, f := range map[string]func(api.Hall, api.HallSetting, api.EnergyAir) (api.Range, api.Errno){
			"Sabine": energy.Sabine, "Hits": energy.Hits, "Eyring": energy.Eyring,
		} {
			before, e := f(h, open, x)
			behind, g := f(h, drawn, x)
			if behind.Lo > before.Lo || behind.Hi > before.Hi || e+g != api.OK {
				t.Fatalf("%s: %v, more absorbed %v, %d, %d", name, before, behind, e, g)
			}
		}
	}
}
