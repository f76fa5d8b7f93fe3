package hall_test

import (
	"slices"
	"strconv"
	"testing"

	"shoebox/api"
	"shoebox/hall"
)

// box is the hall "h" of the chapter's examples, with two seats.
func box() api.Hall {
	return api.Hall{
		Name: "h", Height: 600, Floor: "w", Ceiling: "w",
		Materials: []api.HallMaterial{
			{Name: "w", Absorbed: [api.Bands]int{100, 100, 100, 100}},
			{Name: "v", Absorbed: [api.Bands]int{500, 500, 500, 500}},
		},
		Corners: []api.HallCorner{{X: 0, Y: 0}, {X: 1000, Y: 0}, {X: 1000, Y: 2000}, {X: 0, Y: 2000}},
		Walls: []api.HallWall{
			{Name: "a", Material: "w"}, {Name: "b", Material: "w", Curtain: "v"},
			{Name: "c", Material: "w"}, {Name: "d", Material: "w"},
		},
		Canopies: []api.HallCanopy{{
			Name: "k", Material: "w",
			From: api.HallCorner{X: 200, Y: 500}, To: api.HallCorner{X: 800, Y: 900},
			Heights: []int{400, 500},
		}},
		Seats: []api.HallSeat{
			{Name: "s", At: api.Place{X: 500, Y: 1900, Z: 100}},
			{Name: "t", At: api.Place{X: 500, Y: 700, Z: 550}},
		},
	}
}

// low and high are the box's canopy at 400 and at 500, without a curtain; lowDrawn is low with it.
func low() api.HallSetting      { return api.HallSetting{Heights: []int{0}} }
func high() api.HallSetting     { return api.HallSetting{Heights: []int{1}} }
func lowDrawn() api.HallSetting { return api.HallSetting{Heights: []int{0}, Drawn: []int{1}} }

// wedge has walls of all kinds, a corner that turns inwards (3), two neighbours in one line (6 and 7), three curtains and two canopies, one of them given from its greatest corner to its least.
func wedge() api.Hall {
	h := api.Hall{
		Name: "Wedge-1", Height: 8, Floor: "wood", Ceiling: "lime",
		Materials: []api.HallMaterial{
			{Name: "wood", Absorbed: [api.Bands]int{100, 200, 300, 400}, Scattered: 50},
			{Name: "lime", Absorbed: [api.Bands]int{0, 1, 2, 3}, Scattered: 0},
			{Name: "felt", Absorbed: [api.Bands]int{1000, 999, 998, 997}, Scattered: 1000},
		},
		Corners: []api.HallCorner{
			{X: 0, Y: 0}, {X: 10, Y: 0}, {X: 10, Y: 6}, {X: 16, Y: 12},
			{X: 16, Y: 20}, {X: 10, Y: 26}, {X: 0, Y: 26}, {X: 0, Y: 10},
		},
		Canopies: []api.HallCanopy{
			{Name: "k1", Material: "felt", From: api.HallCorner{X: 9, Y: 8}, To: api.HallCorner{X: 2, Y: 3}, Heights: []int{3, 4, 7}},
			{Name: "k2", Material: "lime", From: api.HallCorner{X: 4, Y: 12}, To: api.HallCorner{X: 12, Y: 20}, Heights: []int{1, 6}},
		},
		Seats: []api.HallSeat{
			{Name: "a1", At: api.Place{X: 5, Y: 5, Z: 1}},
			{Name: "a2", At: api.Place{X: 14, Y: 14, Z: 1}},
			{Name: "a3", At: api.Place{X: 14, Y: 14, Z: 1}},
		},
	}
	for i := range h.Corners {
		w := api.HallWall{Name: "w" + strconv.Itoa(i), Material: "wood"}
		if i == 1 || i == 3 || i == 6 {
			w.Curtain = "felt"
		}
		h.Walls = append(h.Walls, w)
	}
	return h
}

// withPlan is a hall without curtains, canopies and seats over a plan.
func withPlan(height int, corners ...api.HallCorner) api.Hall {
	h := api.Hall{
		Name: "p", Height: height, Floor: "w", Ceiling: "w",
		Materials: []api.HallMaterial{{Name: "w"}},
		Corners:   corners,
	}
	for i := range corners {
		h.Walls = append(h.Walls, api.HallWall{Name: "n" + strconv.Itoa(i), Material: "w"})
	}
	return h
}

func triangle() api.Hall {
	return withPlan(3, api.HallCorner{X: 0, Y: 0}, api.HallCorner{X: 1, Y: 0}, api.HallCorner{X: 0, Y: 1})
}

func at(x, y, z int) api.HallPoint             { return api.HallPoint{X: x, Y: y, Z: z, Den: 1} }
func over(x, y, z, den int) api.HallPoint      { return api.HallPoint{X: x, Y: y, Z: z, Den: den} }
func place(x, y, z int) api.Place              { return api.Place{X: x, Y: y, Z: z} }
func same(a, b api.HallSetting) bool           { return equal(a.Heights, b.Heights) && equal(a.Drawn, b.Drawn) }
func equal(a, b []int) bool                    { return slices.Equal(a, b) }
func isEmpty(s api.HallSetting) bool           { return len(s.Heights) == 0 && len(s.Drawn) == 0 }
func mark(list, number int) api.HallMark       { return api.HallMark{List: list, Number: number} }
func exactly(n int) api.Range                  { return api.Range{Lo: n, Hi: n} }
func plane(kind, at int) api.HallPlane         { return api.HallPlane{Kind: kind, At: at} }
func wayOf(from, to api.HallPoint) api.HallWay { return api.HallWay{From: from, To: to} }

func wantErrno(t *testing.T, what string, got, want api.Errno) {
	t.Helper()
	if got != want {
		t.Errorf("%s: error %d, want %d", what, got, want)
	}
}

// calls is each function that takes a hall, and perhaps a setting, with other arguments that are right for the box.
func calls() map[string]func(h api.Hall, s api.HallSetting) (bool, api.Errno) {
	return map[string]func(h api.Hall, s api.HallSetting) (bool, api.Errno){
		"Settings": func(h api.Hall, _ api.HallSetting) (bool, api.Errno) { n, e := hall.Settings(h); return n == 0, e },
		"SettingAt": func(h api.Hall, _ api.HallSetting) (bool, api.Errno) {
			s, e := hall.SettingAt(h, 0)
			return isEmpty(s), e
		},
		"TwiceArea":   func(h api.Hall, _ api.HallSetting) (bool, api.Errno) { n, e := hall.TwiceArea(h); return n == 0, e },
		"TwiceVolume": func(h api.Hall, _ api.HallSetting) (bool, api.Errno) { n, e := hall.TwiceVolume(h); return n == 0, e },
		"Surfaces":    func(h api.Hall, _ api.HallSetting) (bool, api.Errno) { l, e := hall.Surfaces(h); return len(l) == 0, e },
		"IsInside": func(h api.Hall, _ api.HallSetting) (bool, api.Errno) {
			in, e := hall.IsInside(h, at(1, 1, 1))
			return !in, e
		},
		"Print": func(h api.Hall, _ api.HallSetting) (bool, api.Errno) { t, e := hall.Print(h); return t == "", e },
		"PlaneOf": func(h api.Hall, s api.HallSetting) (bool, api.Errno) {
			p, e := hall.PlaneOf(h, s, 1)
			return p == api.HallPlane{}, e
		},
		"AreaOf": func(h api.Hall, s api.HallSetting) (bool, api.Errno) {
			a, e := hall.AreaOf(h, s, 0)
			return a == api.Range{}, e
		},
		"Absorbed": func(h api.Hall, s api.HallSetting) (bool, api.Errno) {
			a, e := hall.Absorbed(h, s, 0)
			return a == [api.Bands]int{}, e
		},
		"Scattered": func(h api.Hall, s api.HallSetting) (bool, api.Errno) {
			n, e := hall.Scattered(h, s, 0)
			return n == 0, e
		},
		"AbsorptionArea": func(h api.Hall, s api.HallSetting) (bool, api.Errno) {
			a, e := hall.AbsorptionArea(h, s, 0)
			return a == api.Range{}, e
		},
		"IsFree": func(h api.Hall, s api.HallSetting) (bool, api.Errno) {
			free, e := hall.IsFree(h, s, wayOf(at(1, 1, 1), at(2, 2, 2)))
			return !free, e
		},
		"CrossAt": func(h api.Hall, s api.HallSetting) (bool, api.Errno) {
			p, e := hall.CrossAt(h, s, api.HallCross{Surface: 5, From: place(1, 1, 700), To: at(1, 1, 1)})
			return p == api.HallPoint{}, e
		},
		"SeatsSeen": func(h api.Hall, s api.HallSetting) (bool, api.Errno) {
			l, e := hall.SeatsSeen(h, s, place(500, 1000, 100))
			return len(l) == 0, e
		},
		"CheckSetting": func(h api.Hall, s api.HallSetting) (bool, api.Errno) { return true, hall.CheckSetting(h, s) },
	}
}

var takesNoSetting = []string{"Settings", "SettingAt", "TwiceArea", "TwiceVolume", "Surfaces", "IsInside", "Print"}

// TestHallComesFirst: with a wrong hall each function returns its error, ahead of that of the setting, and nothing else (R1, R2).
func TestHallComesFirst(t *testing.T) {
	wrong := box()
	wrong.Corners[2].Y = 2001
	for name, call := range calls() {
		isZero, e := call(wrong, api.HallSetting{})
		if !isZero || e != api.ErrKind {
			t.Errorf("%s of a wrong hall: zero %v, error %d", name, isZero, e)
		}
		if _, e := call(box(), low()); e != api.OK {
			t.Errorf("%s of a right hall: error %d", name, e)
		}
	}
}

// TestSettingComesSecond: with a wrong setting each function that takes one returns its error and nothing else.
func TestSettingComesSecond(t *testing.T) {
	for name, call := range calls() {
		if slices.Contains(takesNoSetting, name) {
			continue
		}
		isZero, e := call(box(), api.HallSetting{})
		if !isZero || e != api.ErrShape {
			t.Errorf("%s of a wrong setting: zero %v, error %d", name, isZero, e)
		}
	}
}
