package energy_test

import (
	"slices"
	"strconv"
	"testing"

	"shoebox/api"
	"shoebox/hall"
)

const (
	leastInt    = -1 << 63
	greatestInt = 1<<63 - 1
)

// box is the hall of the chapter's examples: the walls a, b, c, d (0 to 3), floor 4, ceiling 5.
func box() api.Hall {
	return api.Hall{
		Name: "h", Height: 600, Floor: "w", Ceiling: "w",
		Materials: []api.HallMaterial{material("w", 0, 100, 100, 100, 100)},
		Corners:   []api.HallCorner{corner(0, 0), corner(1000, 0), corner(1000, 2000), corner(0, 2000)},
		Walls:     []api.HallWall{{Name: "a", Material: "w"}, {Name: "b", Material: "w"}, {Name: "c", Material: "w"}, {Name: "d", Material: "w"}},
	}
}

// dressed is the box with other materials on b (v; behind its curtain u), the floor (f), the ceiling (g) and the canopy k (6; c), which hangs at 400 or 500.
func dressed() api.Hall {
	h := box()
	h.Materials = append(h.Materials,
		material("v", 50, 200, 0, 1000, 1),
		material("u", 300, 500, 600, 700, 800),
		material("f", 7, 11, 12, 13, 14),
		material("g", 1000, 21, 22, 23, 24),
		material("c", 90, 31, 32, 33, 34),
	)
	h.Floor, h.Ceiling = "f", "g"
	h.Walls[1].Material, h.Walls[1].Curtain = "v", "u"
	h.Canopies = []api.HallCanopy{{Name: "k", Material: "c", From: corner(200, 500), To: corner(800, 900), Heights: []int{400, 500}}}
	h.Seats = []api.HallSeat{{Name: "s", At: place(500, 1900, 100)}}
	return h
}

// plan is a hall without curtains, canopies and seats; its walls are n0, n1, and so on, and all of it absorbs 100.
func plan(height int, numbers ...int) api.Hall {
	h := api.Hall{
		Name: "p", Height: height, Floor: "w", Ceiling: "w",
		Materials: []api.HallMaterial{material("w", 0, 100, 100, 100, 100)},
	}
	for i := 0; i < len(numbers); i += 2 {
		h.Corners = append(h.Corners, corner(numbers[i], numbers[i+1]))
		h.Walls = append(h.Walls, api.HallWall{Name: "n" + strconv.Itoa(i/2), Material: "w"})
	}
	return h
}

// corner3 is a hall with three walls, whose longest one is diagonal: none of its areas but those of two walls is whole.
func corner3() api.Hall { return plan(300, 0, 0, 11, 0, 0, 11) }

// wedge has walls of all kinds, two canopies (10 and 11) that hang over each other in part, curtains on the walls 1 (u) and 5 (w), and materials that differ from band to band.
func wedge() api.Hall {
	h := plan(10, 0, 0, 10, 0, 10, 6, 16, 12, 16, 20, 10, 26, 0, 26, 0, 10)
	h.Materials = []api.HallMaterial{
		material("w", 30, 100, 250, 0, 1000),
		material("v", 200, 400, 700, 5, 1),
		material("u", 450, 900, 300, 999, 500),
	}
	h.Walls[1].Curtain, h.Walls[5].Curtain = "u", "w"
	h.Walls[2].Material, h.Walls[5].Material, h.Ceiling = "v", "v", "u"
	h.Canopies = []api.HallCanopy{
		{Name: "k1", Material: "v", From: corner(9, 8), To: corner(2, 3), Heights: []int{3, 4, 7}},
		{Name: "k2", Material: "u", From: corner(4, 6), To: corner(9, 20), Heights: []int{1, 6}},
	}
	return h
}

func octagon() api.Hall {
	return plan(10, 7, 0, 17, 0, 24, 7, 24, 17, 17, 24, 7, 24, 0, 17, 0, 7)
}

// bay has a block that comes into the plan: the walls 3, 4 and 5 (n3 to n5) stand around it.
func bay() api.Hall { return plan(10, 0, 0, 40, 0, 40, 30, 25, 30, 25, 10, 15, 10, 15, 30, 0, 30) }

// great is as great as a hall can be, with canopies as great as they can be.
func great() api.Hall {
	h := plan(5000, -5000, -5000, 5000, -5000, 5000, 5000, -5000, 5000)
	for i := range api.MaxHallCanopies {
		h.Canopies = append(h.Canopies, api.HallCanopy{
			Name: "k" + strconv.Itoa(i), Material: "w",
			From: corner(-4999, -4999), To: corner(4999, 4999), Heights: []int{1000 * (i + 1)},
		})
	}
	return h
}

// crowded has as many settings as a hall can have, far more than hall.SettingAt takes.
func crowded() api.Hall {
	h := plan(10, 0, 0, 50, 0, 50, 10, 40, 10, 40, 20, 30, 20, 30, 30, 20, 30, 20, 40, 10, 40, 10, 50, 0, 50)
	for i := range h.Walls {
		h.Walls[i].Curtain = "w"
	}
	for i := range api.MaxHallCanopies {
		name := "k" + strconv.Itoa(i)
		h.Canopies = append(h.Canopies, api.HallCanopy{Name: name, Material: "w", From: corner(1, 1), To: corner(9, 9), Heights: []int{2, 3, 4, 5}})
	}
	return h
}

// wrong is a hall with an error (ErrKind).
func wrong() api.Hall {
	h := box()
	h.Corners[2].Y = 2001
	return h
}

// scene is a hall in a setting.
type scene struct {
	name string
	h    api.Hall
	s    api.HallSetting
}

// scenes is halls of all kinds, in settings of all kinds.
func scenes() []scene {
	return []scene{
		{"box", box(), api.HallSetting{}},
		{"dressed", dressed(), heights(0)},
		{"dressed, drawn", dressed(), api.HallSetting{Heights: list(1), Drawn: list(1)}},
		{"corner3", corner3(), api.HallSetting{}},
		{"wedge", wedge(), heights(0, 1)},
		{"wedge, drawn", wedge(), api.HallSetting{Heights: list(2, 0), Drawn: list(1, 5)}},
		{"octagon", octagon(), api.HallSetting{}},
		{"bay", bay(), api.HallSetting{}},
		{"great", great(), heights(0, 0, 0, 0)},
		{"crowded", crowded(), api.HallSetting{Heights: list(0, 1, 2, 3), Drawn: list(0, 11)}},
	}
}

func material(name string, scattered int, absorbed ...int) api.HallMaterial {
	return api.HallMaterial{Name: name, Absorbed: [api.Bands]int(absorbed), Scattered: scattered}
}

func corner(x, y int) api.HallCorner             { return api.HallCorner{X: x, Y: y} }
func place(x, y, z int) api.Place                { return api.Place{X: x, Y: y, Z: z} }
func from(lo, hi int) api.Range                  { return api.Range{Lo: lo, Hi: hi} }
func exactly(n int) api.Range                    { return from(n, n) }
func list(n ...int) []int                        { return n }
func heights(n ...int) api.HallSetting           { return api.HallSetting{Heights: n} }
func ask(from, to api.Place, n int) api.ImageAsk { return api.ImageAsk{From: from, To: to, Order: n} }

// plain is air that takes nothing, at the speed of the chapter's examples.
func plain() api.EnergyAir              { return airOf(0, 0) }
func airOf(band, air int) api.EnergyAir { return api.EnergyAir{Band: band, Air: air, Speed: 34000} }

// pathOf is a path of a square by surfaces, as far as its energy matters.
func pathOf(square int, surfaces ...int) api.ImagePath {
	return api.ImagePath{Surfaces: surfaces, Points: make([]api.HallPoint, len(surfaces)), Square: square}
}

func echo(delay, energy api.Range) api.EnergyEcho {
	return api.EnergyEcho{Delay: delay, Energy: energy}
}

func equal(a, b api.EnergyEcho) bool {
	return slices.Equal(a.Surfaces, b.Surfaces) && a.Delay == b.Delay && a.Energy == b.Energy
}

func sum(l []int) int {
	n := 0
	for _, x := range l {
		n += x
	}
	return n
}

func wantErrno(t *testing.T, what string, got, want api.Errno) {
	t.Helper()
	if got != want {
		t.Errorf("%s: error %d, want %d", what, got, want)
	}
}

func wantRange(t *testing.T, what string, got, want api.Range, e api.Errno) {
	t.Helper()
	if got != want || e != api.OK {
		t.Errorf("%s: %v, error %d, want %v", what, got, e, want)
	}
}

// The halls of these tests are right.
func TestHalls(t *testing.T) {
	for _, c := range scenes() {
		if e := hall.CheckSetting(c.h, c.s); e != api.OK {
			t.Errorf("%s: %d", c.name, e)
		}
	}
	if m, e := hall.CheckHall(wrong()); e != api.ErrKind {
		t.Errorf("wrong: %v, %d", m, e)
	}
	if _, e := hall.Settings(crowded()); e != api.ErrLarge {
		t.Errorf("the crowded hall: %d", e)
	}
}
