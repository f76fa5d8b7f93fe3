package energy_test

import (
	"testing"

	"shoebox/api"
	"shoebox/energy"
)

// call is a function with a hall and a setting; its other arguments are right for the box, or all of them wrong. It tells whether its result is nothing.
type call func(h api.Hall, s api.HallSetting) (bool, api.Errno)

type arguments struct {
	path api.ImagePath
	ask  api.ImageAsk
	air  api.EnergyAir
}

func rightArguments() arguments {
	return arguments{path: pathOf(50000, 4), ask: example(1), air: plain()}
}

func wrongArguments() arguments {
	return arguments{path: pathOf(0, 9, 9), ask: ask(place(9999, 0, 0), place(9999, 0, 0), 5), air: api.EnergyAir{Band: 4}}
}

func isNoRange(r api.Range, e api.Errno) (bool, api.Errno) { return r == api.Range{}, e }

// calls is the functions that take a hall and a setting.
func calls(x arguments) map[string]call {
	return map[string]call{
		"EnergyOf": func(h api.Hall, s api.HallSetting) (bool, api.Errno) {
			return isNoRange(energy.EnergyOf(h, s, x.path, x.air))
		},
		"Echogram": func(h api.Hall, s api.HallSetting) (bool, api.Errno) {
			l, e := energy.Echogram(h, s, x.ask, x.air)
			return len(l) == 0, e
		},
		"Flutters": func(h api.Hall, s api.HallSetting) (bool, api.Errno) {
			l, e := energy.Flutters(h, s, x.ask)
			return len(l) == 0, e
		},
		"SurfaceOf": func(h api.Hall, s api.HallSetting) (bool, api.Errno) { return isNoRange(energy.SurfaceOf(h, s)) },
		"MeanPath":  func(h api.Hall, s api.HallSetting) (bool, api.Errno) { return isNoRange(energy.MeanPath(h, s)) },
		"Sabine":    func(h api.Hall, s api.HallSetting) (bool, api.Errno) { return isNoRange(energy.Sabine(h, s, x.air)) },
		"Hits":      func(h api.Hall, s api.HallSetting) (bool, api.Errno) { return isNoRange(energy.Hits(h, s, x.air)) },
		"Eyring":    func(h api.Hall, s api.HallSetting) (bool, api.Errno) { return isNoRange(energy.Eyring(h, s, x.air)) },
	}
}

func testCalls(t *testing.T, x arguments, h api.Hall, s api.HallSetting, want api.Errno) {
	t.Helper()
	for name, f := range calls(x) {
		if isNothing, e := f(h, s); e != want || e != api.OK && !isNothing {
			t.Errorf("%s: nothing %v, error %d, want %d", name, isNothing, e, want)
		}
	}
}

// R1, R2: the error of the hall comes first, and with it nothing else; also that of its seats, on which no energy depends.
func TestHallComesFirst(t *testing.T) {
	seats := dressed()
	seats.Seats = append(seats.Seats, seats.Seats[0])
	for _, x := range []arguments{rightArguments(), wrongArguments()} {
		testCalls(t, x, wrong(), heights(7), api.ErrKind)
		testCalls(t, x, api.Hall{}, heights(7), api.ErrName)
		testCalls(t, x, seats, heights(0), api.ErrExists)
	}
}

// R1, R2: the error of the setting comes second, and with it nothing else.
func TestSettingComesSecond(t *testing.T) {
	for _, x := range []arguments{rightArguments(), wrongArguments()} {
		testCalls(t, x, dressed(), api.HallSetting{}, api.ErrShape)
		testCalls(t, x, dressed(), heights(2), api.ErrMissing)
		testCalls(t, x, dressed(), api.HallSetting{Heights: list(0), Drawn: list(0)}, api.ErrMissing)
		testCalls(t, x, dressed(), api.HallSetting{Heights: list(0), Drawn: list(1, 1)}, api.ErrOrder)
	}
	testCalls(t, rightArguments(), dressed(), api.HallSetting{Heights: list(1), Drawn: list(1)}, api.OK)
}

// Halls with more settings than hall.Settings counts are as right as others.
func TestManySettings(t *testing.T) {
	x := rightArguments()
	x.path, x.ask = pathOf(5, 12), ask(place(30, 5, 1), place(5, 30, 1), 1)
	testCalls(t, x, crowded(), api.HallSetting{Heights: list(0, 1, 2, 3), Drawn: list(0, 11)}, api.OK)
}
