package energy_test

import (
	"math"
	"math/rand"
	"slices"
	"testing"

	"shoebox/api"
	"shoebox/energy"
	"shoebox/hall"
	"shoebox/image"
)

// P3.1: energies of paths.
func TestEnergyOf(t *testing.T) {
	b, bu := heights(0), api.HallSetting{Heights: list(0), Drawn: list(1)}
	for _, c := range []struct {
		name string
		h    api.Hall
		s    api.HallSetting
		p    api.ImagePath
		x    api.EnergyAir
		want api.Range
	}{
		{"direct", box(), api.HallSetting{}, pathOf(20000), plain(), exactly(50000000)},
		{"by the floor", box(), api.HallSetting{}, pathOf(50000, 4), plain(), exactly(18000000)},
		{"by the floor in air", box(), api.HallSetting{}, pathOf(50000, 4), airOf(0, 1000), from(17946053, 17964018)},
		{"the shortest", box(), api.HallSetting{}, pathOf(1), plain(), exactly(1000000000000)},
		{"the longest", box(), api.HallSetting{}, pathOf(24300000000), plain(), from(41, 42)},
		{"not divided evenly", box(), api.HallSetting{}, pathOf(3), plain(), from(333333333333, 333333333334)},
		{"any surfaces", box(), api.HallSetting{}, pathOf(1000000, 0, 5, 0, 5), plain(), exactly(656100)},
		{"band 0 of v", dressed(), b, pathOf(1000000, 1), plain(), exactly(760000)},
		{"band 1 of v: nothing is absorbed", dressed(), b, pathOf(1000000, 1), airOf(1, 0), exactly(950000)},
		{"band 2 of v: all is absorbed", dressed(), b, pathOf(3, 1), airOf(2, 0), exactly(0)},
		{"band 3 of v", dressed(), b, pathOf(1000000, 1), airOf(3, 0), exactly(949050)},
		{"band 2 of the curtain", dressed(), bu, pathOf(1000000, 1), airOf(2, 0), exactly(210000)},
		{"the floor", dressed(), b, pathOf(1000000, 4), plain(), exactly(982077)},
		{"the ceiling scatters all", dressed(), b, pathOf(3, 5), plain(), exactly(0)},
		{"the canopy", dressed(), b, pathOf(1000000, 6), airOf(3, 0), exactly(879060)},
		{"rounded at each surface", dressed(), b, pathOf(100000000000/7, 1, 4), plain(), from(51, 55)},
		{"rounded behind what is absorbed, and behind what is scattered", dressed(), b, pathOf(1000000000, 6), plain(), from(881, 882)},
		{"hardly anything by all", box(), api.HallSetting{}, pathOf(24300000000, 0, 1, 2, 3), plain(), from(25, 29)},
		{"a metre", box(), api.HallSetting{}, pathOf(10000), airOf(0, 100000), exactly(90000000)},
		{"less than a metre", box(), api.HallSetting{}, pathOf(9999), airOf(0, 100000), from(90009000, 100010002)},
		{"more than a metre", box(), api.HallSetting{}, pathOf(10001), airOf(0, 100000), from(80991900, 89991001)},
		{"two metres", box(), api.HallSetting{}, pathOf(40000), airOf(0, 100000), exactly(20250000)},
		{"a millionth in a metre", box(), api.HallSetting{}, pathOf(10000), airOf(0, 1), exactly(99999900)},
		{"a millionth of little", box(), api.HallSetting{}, pathOf(24300000000), airOf(0, 1), from(0, 42)},
		{"much air on the longest way", box(), api.HallSetting{}, pathOf(24300000000), airOf(0, 100000), from(0, 9)},
		{"surfaces ahead of the air", box(), api.HallSetting{}, pathOf(10000, 4, 5), airOf(0, 3), exactly(80999757)},
	} {
		r, e := energy.EnergyOf(c.h, c.s, c.p, c.x)
		wantRange(t, c.name, r, c.want, e)
		if slow := slowEnergy(scene{"", c.h, c.s}, c.p, c.x); slow != c.want {
			t.Errorf("%s: slow %v, want %v", c.name, slow, c.want)
		}
	}
}

// P3.1: whether a path is one between two places is not asked, and the speed does not matter.
func TestEnergyOfAnyPath(t *testing.T) {
	p := pathOf(20000, 4)
	p.Points[0] = api.HallPoint{X: greatestInt, Y: leastInt, Z: 7, Den: -3}
	for _, speed := range list(30000, 34000, 40000) {
		r, e := energy.EnergyOf(box(), api.HallSetting{}, p, api.EnergyAir{Band: 3, Speed: speed})
		wantRange(t, "any path", r, exactly(45000000), e)
	}
}

// anyPath is a path by surfaces of a hall, with a square of any size.
func anyPath(r *rand.Rand, surfaces int) api.ImagePath {
	p := pathOf(1 + r.Intn(1+int(math.Pow(10, 1+r.Float64()*9.38))))
	p.Square = min(p.Square, api.MaxImageSquare)
	for range r.Intn(api.MaxImageOrder + 1) {
		n := r.Intn(surfaces)
		if k := len(p.Surfaces); k == 0 || p.Surfaces[k-1] != n {
			p = pathOf(p.Square, append(p.Surfaces, n)...)
		}
	}
	return p
}

func anyAir(r *rand.Rand) api.EnergyAir {
	x := api.EnergyAir{Band: r.Intn(api.Bands), Speed: 30000 + r.Intn(10001)}
	switch r.Intn(3) {
	case 0:
		x.Air = r.Intn(10)
	case 1:
		x.Air = r.Intn(api.MaxEnergyAir + 1)
	}
	return x
}

// P3.1: energies as they follow from the definition.
func TestEnergyOfSlowly(t *testing.T) {
	r := rand.New(rand.NewSource(1))
	for _, c := range scenes() {
		names, _ := hall.Surfaces(c.h)
		for range 200 {
			p, x := anyPath(r, len(names)), anyAir(r)
			got, e := energy.EnergyOf(c.h, c.s, p, x)
			if want := slowEnergy(c, p, x); got != want || e != api.OK {
				t.Fatalf("%s: %v, %v: %v, %d, want %v", c.name, p, x, got, e, want)
			}
		}
	}
}

// pathErrors is what is wrong with paths of the box.
var pathErrors = []struct {
	name string
	p    api.ImagePath
	want api.Errno
}{
	{"right", pathOf(1), api.OK},
	{"as many surfaces as can be", pathOf(24300000000, 0, 5, 0, 5), api.OK},
	{"a point too many", api.ImagePath{Points: make([]api.HallPoint, 1), Square: 1}, api.ErrShape},
	{"a point too few", api.ImagePath{Surfaces: list(0), Square: 1}, api.ErrShape},
	{"the shape ahead of the size", api.ImagePath{Surfaces: list(0, 1, 2, 3, 4), Square: 0}, api.ErrShape},
	{"five surfaces", pathOf(1, 0, 1, 2, 3, 4), api.ErrLarge},
	{"the size ahead of the square", pathOf(0, 9, 9, 9, 9, 9), api.ErrLarge},
	{"no square", pathOf(0), api.ErrRange},
	{"a square below 0", pathOf(leastInt), api.ErrRange},
	{"a square too great", pathOf(24300000001), api.ErrRange},
	{"the square ahead of the surfaces", pathOf(0, 9, 9), api.ErrRange},
	{"no such surface", pathOf(1, 6), api.ErrMissing},
	{"a surface below 0", pathOf(1, 0, -1), api.ErrMissing},
	{"the least surface", pathOf(1, leastInt), api.ErrMissing},
	{"twice in a row", pathOf(1, 0, 1, 1), api.ErrDouble},
	{"missing ahead of double", pathOf(1, 6, 6), api.ErrMissing},
	{"double ahead of missing", pathOf(1, 0, 0, 6), api.ErrDouble},
}

// airErrors is what is wrong with air.
var airErrors = []struct {
	x    api.EnergyAir
	want api.Errno
}{
	{api.EnergyAir{Band: 0, Air: 0, Speed: 30000}, api.OK},
	{api.EnergyAir{Band: 3, Air: 100000, Speed: 40000}, api.OK},
	{api.EnergyAir{Band: 4, Air: 0, Speed: 34000}, api.ErrMissing},
	{api.EnergyAir{Band: -1, Air: -1, Speed: 0}, api.ErrMissing},
	{api.EnergyAir{Band: leastInt, Air: 0, Speed: 34000}, api.ErrMissing},
	{api.EnergyAir{Band: 0, Air: -1, Speed: 34000}, api.ErrRange},
	{api.EnergyAir{Band: 0, Air: 100001, Speed: 34000}, api.ErrRange},
	{api.EnergyAir{Band: 0, Air: leastInt, Speed: 34000}, api.ErrRange},
	{api.EnergyAir{Band: 0, Air: 0, Speed: 29999}, api.ErrRange},
	{api.EnergyAir{Band: 0, Air: 0, Speed: 40001}, api.ErrRange},
	{api.EnergyAir{}, api.ErrRange},
	{api.EnergyAir{Band: 0, Air: 0, Speed: leastInt}, api.ErrRange},
}

// P3.1: the errors of the path, and those of the air behind them.
func TestEnergyOfErrors(t *testing.T) {
	for _, c := range pathErrors {
		for _, a := range airErrors {
			want := c.want
			if want == api.OK {
				want = a.want
			}
			r, e := energy.EnergyOf(box(), api.HallSetting{}, c.p, a.x)
			wantErrno(t, c.name, e, want)
			if e != api.OK && r != (api.Range{}) {
				t.Errorf("%s: %v beside %d", c.name, r, e)
			}
		}
	}
}

// example is the ask of the chapters' examples.
func example(order int) api.ImageAsk { return ask(place(300, 700, 150), place(300, 800, 50), order) }

// P3.1: the echoes of the example: the surfaces, the delays and the energies.
func TestEchogram(t *testing.T) {
	want := []api.EnergyEcho{
		{Delay: from(4159, 4160), Energy: exactly(50000000)},
		{Surfaces: list(4), Delay: from(6576, 6577), Energy: exactly(18000000)},
		{Surfaces: list(3), Delay: from(18130, 18131), Energy: from(2368420, 2368422)},
	}
	l, e := energy.Echogram(box(), api.HallSetting{}, example(1), plain())
	if len(l) != 7 || e != api.OK || !slices.EqualFunc(l[:3], want, equal) {
		t.Errorf("echogram: %v, %d", l, e)
	}
	l, e = energy.Echogram(box(), api.HallSetting{}, example(0), api.EnergyAir{Air: 1000, Speed: 40000})
	if len(l) != 1 || e != api.OK || !equal(l[0], echo(from(3535, 3536), from(49900050, 49950000))) {
		t.Errorf("the direct way: %v, %d", l, e)
	}
}

// P3.1: no path, no echo.
func TestEchogramOfNothing(t *testing.T) {
	l, e := energy.Echogram(bay(), api.HallSetting{}, ask(place(10, 25, 5), place(30, 25, 5), 0), plain())
	if len(l) != 0 || e != api.OK {
		t.Errorf("behind a block: %v, %d", l, e)
	}
}

// listened is asks in halls.
func listened() map[*scene]api.ImageAsk {
	all := scenes()
	return map[*scene]api.ImageAsk{
		&all[0]: ask(place(300, 700, 150), place(900, 1900, 50), 3),
		&all[1]: ask(place(400, 600, 100), place(600, 1800, 90), 3),
		&all[2]: ask(place(400, 600, 100), place(600, 1800, 90), 2),
		&all[3]: ask(place(1, 2, 100), place(5, 3, 299), 3),
		&all[4]: ask(place(5, 5, 1), place(12, 18, 2), 3),
		&all[5]: ask(place(5, 5, 1), place(12, 18, 9), 3),
		&all[6]: ask(place(12, 12, 5), place(13, 10, 2), 3),
		&all[7]: ask(place(10, 25, 5), place(30, 25, 5), 3),
		&all[8]: ask(place(-4000, 4000, 500), place(4900, 100, 10), 2),
		&all[9]: ask(place(5, 30, 1), place(30, 5, 1), 2),
	}
}

// P3.1: an echogram has an echo for each path, in their order.
func TestEchogramOfPaths(t *testing.T) {
	r := rand.New(rand.NewSource(2))
	for c, a := range listened() {
		x := anyAir(r)
		l, e := energy.Echogram(c.h, c.s, a, x)
		paths, _ := image.Paths(c.h, c.s, a)
		if len(l) != len(paths) || len(l) == 0 || e != api.OK {
			t.Errorf("%s: %d echoes of %d paths, %d", c.name, len(l), len(paths), e)
			continue
		}
		for i, p := range paths {
			delay, _ := image.DelayOf(p, x.Speed)
			power, _ := energy.EnergyOf(c.h, c.s, p, x)
			if want := (api.EnergyEcho{Surfaces: p.Surfaces, Delay: delay, Energy: power}); !equal(l[i], want) {
				t.Errorf("%s, echo %d: %v, want %v", c.name, i, l[i], want)
			}
		}
		if n, e := energy.CheckEchoes(l); n != 0 || e != api.OK {
			t.Errorf("%s: echo %d has the error %d", c.name, n, e)
		}
	}
}

// askErrors is what is wrong with asks in the box.
var askErrors = []struct {
	x    api.ImageAsk
	want api.Errno
}{
	{example(0), api.OK},
	{example(2), api.OK},
	{example(5), api.ErrRange},
	{example(-1), api.ErrRange},
	{ask(place(300, 700, 150), place(300, 700, 150), 9), api.ErrZero},
	{ask(place(0, 700, 150), place(5001, 0, 0), 9), api.ErrBreak},
	{ask(place(5001, 700, 150), place(0, 0, 0), 9), api.ErrRange},
	{ask(place(300, 700, 150), place(300, 700, 600), 9), api.ErrBreak},
}

// P3.1: the errors of the ask, and those of the air behind them.
func TestEchogramErrors(t *testing.T) {
	for _, c := range askErrors {
		for _, a := range airErrors {
			want := c.want
			if want == api.OK {
				want = a.want
			}
			l, e := energy.Echogram(box(), api.HallSetting{}, c.x, a.x)
			wantErrno(t, "Echogram", e, want)
			if e != api.OK && len(l) != 0 {
				t.Errorf("%v, %v: %v beside %d", c.x, a.x, l, e)
			}
		}
	}
}

// P3.8: a path by one surface more has no more energy.
func TestMoreSurfaces(t *testing.T) {
	r := rand.New(rand.NewSource(3))
	for _, c := range scenes() {
		names, _ := hall.Surfaces(c.h)
		for range 100 {
			p, x := anyPath(r, len(names)), anyAir(r)
			n := len(p.Surfaces)
			if n == 0 {
				continue
			}
			more, e := energy.EnergyOf(c.h, c.s, p, x)
			fewer, f := energy.EnergyOf(c.h, c.s, pathOf(p.Square, p.Surfaces[:n-1]...), x)
			if more.Lo > fewer.Lo || more.Hi > fewer.Hi || e+f != api.OK {
				t.Fatalf("%s: %v, %v: %v, fewer %v", c.name, p, x, more, fewer)
			}
		}
	}
}

// P3.9: the echogram from the seat to the source, with the same delays, and the same energies but for roundings.
func TestBothWays(t *testing.T) {
	r := rand.New(rand.NewSource(4))
	for c, a := range listened() {
		x := anyAir(r)
		there, e := energy.Echogram(c.h, c.s, a, x)
		back, f := energy.Echogram(c.h, c.s, ask(a.To, a.From, a.Order), x)
		if len(there) != len(back) || len(there) == 0 || e+f != api.OK {
			t.Errorf("%s: %d and %d echoes, %d, %d", c.name, len(there), len(back), e, f)
			continue
		}
		for i, one := range there {
			if one.Delay != back[i].Delay {
				t.Errorf("%s: delays %v and %v", c.name, one.Delay, back[i].Delay)
			}
			turned := slices.Clone(one.Surfaces)
			slices.Reverse(turned)
			k := slices.IndexFunc(back, func(o api.EnergyEcho) bool { return slices.Equal(o.Surfaces, turned) })
			if k < 0 {
				t.Errorf("%s: %v is not there", c.name, turned)
				continue
			}
			// each rounding changes an end by less than 1, and what comes behind it makes no difference greater
			const roundings = 1 + 2*api.MaxImageOrder
			other := back[k].Energy
			if one.Delay != back[k].Delay || max(one.Energy.Lo, other.Lo) > min(one.Energy.Hi, other.Hi) {
				t.Errorf("%s: %v and %v", c.name, one, back[k])
			}
			if x.Air == 0 && (isApart(one.Energy.Lo, other.Lo, roundings) || isApart(one.Energy.Hi, other.Hi, roundings)) {
				t.Errorf("%s: %v and %v", c.name, one.Energy, other)
			}
		}
	}
}

func isApart(a, b, most int) bool { return a-b > most || b-a > most }
