package energy_test

import (
	"reflect"
	"slices"
	"testing"

	"shoebox/api"
	"shoebox/energy"
)

// R4: no function changes its arguments.
func TestArgumentsStay(t *testing.T) {
	h, s := dressed(), api.HallSetting{Heights: list(0), Drawn: list(1)}
	p, a := pathOf(50000, 4, 1), example(2)
	l := []api.EnergyEcho{{Surfaces: list(3), Delay: exactly(1), Energy: exactly(2)}}
	x, e := pair(), list(100, 11)
	energy.EnergyOf(h, s, p, plain())
	energy.Echogram(h, s, a, plain())
	energy.CheckEchoes(l)
	energy.UpTo(l, 1)
	energy.BurstOf(l, 1)
	energy.Flutters(h, s, a)
	energy.CheckExchange(x)
	energy.Step(x, e)
	energy.Run(x, e, 0)
	energy.Run(x, e, 5)
	energy.BoundOf(x, 7, 7)
	energy.StepsTo(x, e, 1)
	energy.IsReciprocal(x, e)
	energy.SurfaceOf(h, s)
	energy.MeanPath(h, s)
	energy.Sabine(h, s, plain())
	energy.Hits(h, s, plain())
	energy.Eyring(h, s, plain())
	if !reflect.DeepEqual(h, dressed()) || !reflect.DeepEqual(s, api.HallSetting{Heights: list(0), Drawn: list(1)}) {
		t.Errorf("changed: %v, %v", h, s)
	}
	if !reflect.DeepEqual(p, pathOf(50000, 4, 1)) || !equal(l[0], api.EnergyEcho{Surfaces: list(3), Delay: exactly(1), Energy: exactly(2)}) {
		t.Errorf("changed: %v, %v", p, l)
	}
	if !reflect.DeepEqual(x, pair()) || !slices.Equal(e, list(100, 11)) {
		t.Errorf("changed: %v, %v", x, e)
	}
}

// R4: energies behind a run share nothing with those ahead of it, also behind no step, and not with the shares.
func TestEnergiesAreNew(t *testing.T) {
	for steps := range 3 {
		x, e := pair(), append(make([]int, 0, 8), 100, 11)
		l, _, _ := energy.Run(x, e, steps)
		want := slices.Clone(l)
		e[0] = 77
		_ = append(e, 78)
		if !slices.Equal(l, want) {
			t.Errorf("%d steps: changed: %v", steps, l)
		}
		l[1] = 79
		_ = append(l, 80)
		if !slices.Equal(e[:3], list(77, 11, 78)) || !reflect.DeepEqual(x, pair()) {
			t.Errorf("%d steps: changed: %v, %v", steps, e[:3], x)
		}
	}
}

// R4: echoes share nothing with each other.
func TestEchoesAreNew(t *testing.T) {
	l, _ := energy.Echogram(dressed(), heights(0), example(2), plain())
	want, _ := energy.Echogram(dressed(), heights(0), example(2), plain())
	for i := range l {
		_ = append(l[i].Surfaces, 77, 77)
	}
	if !slices.EqualFunc(l, want, equal) {
		t.Errorf("appended to: %v", l)
	}
	for i := range l {
		for k := range l[i].Surfaces {
			l[i].Surfaces[k] = -1
		}
		if i+1 < len(l) && !equal(l[i+1], want[i+1]) {
			t.Errorf("changed: %v", l[i+1])
		}
	}
}

// R3: nil and empty lists are the same.
func TestNilAndEmpty(t *testing.T) {
	empty := api.ImagePath{Surfaces: []int{}, Points: []api.HallPoint{}, Square: 20000}
	a, e := energy.EnergyOf(box(), api.HallSetting{}, empty, plain())
	b, f := energy.EnergyOf(box(), api.HallSetting{Heights: []int{}, Drawn: []int{}}, api.ImagePath{Square: 20000}, plain())
	if a != b || a != exactly(50000000) || e+f != api.OK {
		t.Errorf("%v, %d and %v, %d", a, e, b, f)
	}
	if n, e := energy.CheckExchange(api.EnergyExchange{Shares: [][]int{}, Lost: []int{}}); n != 0 || e != api.ErrShape {
		t.Errorf("no patches: %d, %d", n, e)
	}
	if n, e := energy.CheckEchoes([]api.EnergyEcho{}); n != 0 || e != api.OK {
		t.Errorf("no echoes: %d, %d", n, e)
	}
}
