package image_test

import (
	"testing"

	"shoebox/api"
	"shoebox/image"
)

// call is a function with a hall and perhaps a setting; its other arguments are right for the box, or all of them wrong. It tells whether its result is nothing.
type call func(h api.Hall, s api.HallSetting) (bool, api.Errno)

type arguments struct {
	ask      api.ImageAsk
	surfaces []int
	path     api.ImagePath
	source   api.HallCorner
	turn     api.ImageTurn
	order    int
	text     string
}

func rightArguments() arguments {
	return arguments{
		ask:      example(1),
		surfaces: list(1),
		path:     api.ImagePath{Surfaces: list(1), Points: []api.HallPoint{at(1000, 750, 100)}, Square: 1980000},
		source:   corner(500, 1000),
		turn:     turn(1, 0),
		order:    1,
		text:     "b",
	}
}

func wrongArguments() arguments {
	return arguments{
		ask:      ask(place(9999, 0, 0), place(9999, 0, 0), 5),
		surfaces: list(9, 9),
		path:     api.ImagePath{Surfaces: list(1)},
		source:   corner(9999, 0),
		turn:     turn(0, 0),
		order:    -1,
		text:     "",
	}
}

// settled is the functions that take a hall and a setting, planned those that take a hall alone.
func settled(x arguments) map[string]call {
	return map[string]call{
		"CheckAsk": func(h api.Hall, s api.HallSetting) (bool, api.Errno) { return true, image.CheckAsk(h, s, x.ask) },
		"ImageAt": func(h api.Hall, s api.HallSetting) (bool, api.Errno) {
			p, e := image.ImageAt(h, s, x.ask.From, x.surfaces)
			return p == api.Place{}, e
		},
		"PathOf": func(h api.Hall, s api.HallSetting) (bool, api.Errno) {
			p, e := image.PathOf(h, s, x.ask, x.surfaces)
			return isNoPath(p), e
		},
		"Paths": func(h api.Hall, s api.HallSetting) (bool, api.Errno) {
			l, e := image.Paths(h, s, x.ask)
			return len(l) == 0, e
		},
		"CheckPath": func(h api.Hall, s api.HallSetting) (bool, api.Errno) {
			return true, image.CheckPath(h, s, x.ask, x.path)
		},
	}
}

func planned(x arguments) map[string]call {
	return map[string]call{
		"Follow": func(h api.Hall, _ api.HallSetting) (bool, api.Errno) {
			l, e := image.Follow(h, x.source, x.turn, x.order)
			return len(l) == 0, e
		},
		"Beams": func(h api.Hall, _ api.HallSetting) (bool, api.Errno) {
			l, e := image.Beams(h, x.source, x.order)
			return len(l) == 0, e
		},
		"CheckBeams": func(h api.Hall, _ api.HallSetting) (bool, api.Errno) {
			l, _ := image.Beams(h, x.source, x.order)
			n, e := image.CheckBeams(h, x.source, x.order, l)
			return n == 0, e
		},
		"Reached": func(h api.Hall, _ api.HallSetting) (bool, api.Errno) {
			l, e := image.Reached(h, x.ask)
			return len(l) == 0, e
		},
		"FormatWalk": func(h api.Hall, _ api.HallSetting) (bool, api.Errno) {
			t, e := image.FormatWalk(h, x.surfaces)
			return t == "", e
		},
		"ParseWalk": func(h api.Hall, _ api.HallSetting) (bool, api.Errno) {
			l, e := image.ParseWalk(h, x.text)
			return len(l) == 0, e
		},
	}
}

func testCalls(t *testing.T, calls map[string]call, h api.Hall, s api.HallSetting, want api.Errno) {
	t.Helper()
	for name, f := range calls {
		if isNothing, e := f(h, s); e != want || e != api.OK && !isNothing {
			t.Errorf("%s: nothing %v, error %d, want %d", name, isNothing, e, want)
		}
	}
}

// R1, R2: the error of the hall comes first, and with it nothing else.
func TestHallComesFirst(t *testing.T) {
	s := api.HallSetting{Heights: list(7)}
	for _, x := range []arguments{rightArguments(), wrongArguments()} {
		testCalls(t, settled(x), wrong(), s, api.ErrKind)
		testCalls(t, planned(x), wrong(), s, api.ErrKind)
		testCalls(t, settled(x), api.Hall{}, s, api.ErrName)
		testCalls(t, planned(x), api.Hall{}, s, api.ErrName)
	}
	testCalls(t, settled(rightArguments()), box(), api.HallSetting{}, api.OK)
	testCalls(t, planned(rightArguments()), box(), s, api.OK)
}

// The seats of a hall are looked at, though no way depends on them.
func TestSeatsAreChecked(t *testing.T) {
	h := box()
	h.Seats = append(h.Seats, h.Seats[0])
	testCalls(t, settled(rightArguments()), h, api.HallSetting{}, api.ErrExists)
	testCalls(t, planned(rightArguments()), h, api.HallSetting{}, api.ErrExists)
}

// R1, R2: the error of the setting comes second, and with it nothing else.
func TestSettingComesSecond(t *testing.T) {
	for _, x := range []arguments{rightArguments(), wrongArguments()} {
		testCalls(t, settled(x), sheltered(), api.HallSetting{}, api.ErrShape)
		testCalls(t, settled(x), sheltered(), heights(2), api.ErrMissing)
		testCalls(t, settled(x), sheltered(), api.HallSetting{Heights: list(0), Drawn: list(0)}, api.ErrMissing)
		testCalls(t, settled(x), sheltered(), api.HallSetting{Heights: list(0), Drawn: list(1, 1)}, api.ErrOrder)
	}
	testCalls(t, settled(rightArguments()), sheltered(), api.HallSetting{Heights: list(1), Drawn: list(1)}, api.OK)
}

// Halls with more settings than hall.Settings counts are as right as others.
func TestManySettings(t *testing.T) {
	x := rightArguments()
	x.ask = ask(place(30, 5, 1), place(5, 30, 1), 1)
	x.source, x.surfaces, x.text = corner(30, 5), list(12), "n1"
	calls := settled(x)
	delete(calls, "CheckPath")
	testCalls(t, calls, crowded(), heights(0, 1, 2, 3), api.OK)
	testCalls(t, planned(x), crowded(), api.HallSetting{}, api.OK)
}

// sourceErrors is what is wrong with places of the box, as a source in the plan.
var sourceErrors = []struct {
	at   api.HallCorner
	want api.Errno
}{
	{corner(1, 1), api.OK},
	{corner(999, 1999), api.OK},
	{corner(0, 1000), api.ErrBreak},
	{corner(500, 0), api.ErrBreak},
	{corner(1000, 2000), api.ErrBreak},
	{corner(1001, 1000), api.ErrBreak},
	{corner(5000, -5000), api.ErrBreak},
	{corner(5001, 1000), api.ErrRange},
	{corner(500, -5001), api.ErrRange},
	{corner(-5001, 0), api.ErrRange},
	{corner(0, 5001), api.ErrRange},
	{corner(leastInt, 0), api.ErrRange},
	{corner(0, leastInt), api.ErrRange},
}

// P2.4, P2.5: the errors of the source, and those of the order behind them.
func TestSourceErrors(t *testing.T) {
	for _, c := range sourceErrors {
		for _, order := range list(0, 4, -1, 5, leastInt) {
			want := c.want
			if want == api.OK && (order < 0 || order > 4) {
				want = api.ErrRange
			}
			l, e := image.Beams(box(), c.at, order)
			wantErrno(t, "Beams", e, want)
			n, f := image.CheckBeams(box(), c.at, order, l)
			wantErrno(t, "CheckBeams", f, want)
			w, g := image.Follow(box(), c.at, turn(100, 1), order)
			wantErrno(t, "Follow", g, want)
			if want != api.OK && len(l)+n+len(w) > 0 {
				t.Errorf("from %v with %d: %v, %d, %v", c.at, order, l, n, w)
			}
		}
	}
	flat := box()
	flat.Height, flat.Seats = 2, nil
	_, e := image.Beams(flat, corner(1, 1), 0)
	wantErrno(t, "the flattest hall", e, api.OK)
	_, e = image.Follow(box(), corner(0, 0), turn(0, 0), -1)
	wantErrno(t, "Follow: the source ahead of the turn", e, api.ErrBreak)
	_, e = image.Follow(box(), corner(1, 1), turn(0, 0), -1)
	wantErrno(t, "Follow: the turn ahead of the order", e, api.ErrForm)
	_, e = image.Follow(box(), corner(1, 1), turn(0, 1), -1)
	wantErrno(t, "Follow: the order", e, api.ErrRange)
}
