package image_test

import (
	"slices"
	"strconv"
	"testing"

	"shoebox/api"
	"shoebox/hall"
)

const leastInt = -1 << 63

// box is the hall of the chapter's examples: the walls a, b, c, d (0 to 3; b has a curtain), floor 4, ceiling 5.
func box() api.Hall {
	return api.Hall{
		Name: "h", Height: 600, Floor: "w", Ceiling: "w",
		Materials: []api.HallMaterial{{Name: "w"}, {Name: "v", Absorbed: [api.Bands]int{500, 500, 500, 500}}},
		Corners:   []api.HallCorner{corner(0, 0), corner(1000, 0), corner(1000, 2000), corner(0, 2000)},
		Walls: []api.HallWall{
			{Name: "a", Material: "w"}, {Name: "b", Material: "w", Curtain: "v"},
			{Name: "c", Material: "w"}, {Name: "d", Material: "w"},
		},
		Seats: []api.HallSeat{{Name: "s", At: place(500, 1900, 100)}},
	}
}

// sheltered is the box with the canopy k (6), at 400 or 500.
func sheltered() api.Hall {
	h := box()
	h.Canopies = []api.HallCanopy{{Name: "k", Material: "w", From: corner(200, 500), To: corner(800, 900), Heights: []int{400, 500}}}
	return h
}

// plan is a hall of the height 10 without curtains, canopies and seats; its walls are n0, n1, and so on.
func plan(numbers ...int) api.Hall {
	h := api.Hall{Name: "p", Height: 10, Floor: "w", Ceiling: "w", Materials: []api.HallMaterial{{Name: "w"}}}
	for i := 0; i < len(numbers); i += 2 {
		h.Corners = append(h.Corners, corner(numbers[i], numbers[i+1]))
		h.Walls = append(h.Walls, api.HallWall{Name: "n" + strconv.Itoa(i/2), Material: "w"})
	}
	return h
}

// angle has a corner that turns inwards (3).
func angle() api.Hall { return plan(0, 0, 30, 0, 30, 20, 20, 20, 20, 40, 0, 40) }

// tipped has a tip that hangs into the plan at (30, 10).
func tipped() api.Hall { return plan(0, 0, 40, 0, 40, 20, 30, 10, 20, 20, 0, 20) }

// plans has walls of all kinds, corners that turn inwards, walls in one line, and greatest ones.
func plans() map[string]api.Hall {
	return map[string]api.Hall{
		"box":      plan(0, 0, 10, 0, 10, 20, 0, 20),
		"angle":    angle(),
		"tipped":   tipped(),
		"wedge":    plan(0, 0, 10, 0, 10, 6, 16, 12, 16, 20, 10, 26, 0, 26, 0, 10),
		"octagon":  plan(7, 0, 17, 0, 24, 7, 24, 17, 17, 24, 7, 24, 0, 17, 0, 7),
		"straight": plan(0, 0, 10, 0, 20, 0, 20, 10, 10, 20, 0, 30, 0, 15),
		"bay":      plan(0, 0, 40, 0, 40, 30, 25, 30, 25, 10, 15, 10, 15, 30, 0, 30),
		"hook":     plan(0, 0, 50, 0, 50, 40, 0, 40, 0, 30, 35, 30, 35, 10, 25, 10, 25, 20, 0, 20),
		"star":     plan(0, 0, 10, 10, 20, 0, 20, 20, 30, 30, 20, 30, 10, 40, 10, 20, 0, 20),
		"great":    plan(-5000, -5000, 5000, -5000, 5000, 5000, 0, 0, -5000, 5000),
	}
}

// roofed is the wedge with two canopies that hang over each other in part (10 and 11), one of them given from its greatest corner.
func roofed() api.Hall {
	h := plans()["wedge"]
	h.Canopies = []api.HallCanopy{
		{Name: "k1", Material: "w", From: corner(9, 8), To: corner(2, 3), Heights: []int{3, 4, 7}},
		{Name: "k2", Material: "w", From: corner(4, 6), To: corner(9, 20), Heights: []int{1, 6}},
	}
	return h
}

// crowded has as many settings as a hall can have, far more than hall.SettingAt takes.
func crowded() api.Hall {
	h := plan(0, 0, 50, 0, 50, 10, 40, 10, 40, 20, 30, 20, 30, 30, 20, 30, 20, 40, 10, 40, 10, 50, 0, 50)
	for i := range h.Walls {
		h.Walls[i].Curtain = "w"
	}
	for i := range api.MaxHallCanopies {
		name := "k" + strconv.Itoa(i)
		h.Canopies = append(h.Canopies, api.HallCanopy{Name: name, Material: "w", From: corner(1, 1), To: corner(9, 9), Heights: []int{2, 3, 4, 5}})
	}
	return h
}

// wrong is a hall with an error (ErrKind).
func wrong() api.Hall {
	h := box()
	h.Corners[2].Y = 2001
	return h
}

func corner(x, y int) api.HallCorner             { return api.HallCorner{X: x, Y: y} }
func place(x, y, z int) api.Place                { return api.Place{X: x, Y: y, Z: z} }
func turn(x, y int) api.ImageTurn                { return api.ImageTurn{X: x, Y: y} }
func at(x, y, z int) api.HallPoint               { return over(x, y, z, 1) }
func over(x, y, z, den int) api.HallPoint        { return api.HallPoint{X: x, Y: y, Z: z, Den: den} }
func exactly(n int) api.Range                    { return api.Range{Lo: n, Hi: n} }
func from(lo, hi int) api.Range                  { return api.Range{Lo: lo, Hi: hi} }
func list(n ...int) []int                        { return n }
func heights(n ...int) api.HallSetting           { return api.HallSetting{Heights: n} }
func ask(from, to api.Place, n int) api.ImageAsk { return api.ImageAsk{From: from, To: to, Order: n} }

// example is the ask of the chapter's examples.
func example(order int) api.ImageAsk { return ask(place(300, 700, 150), place(300, 800, 50), order) }

func equal(a, b api.ImagePath) bool {
	return slices.Equal(a.Surfaces, b.Surfaces) && slices.Equal(a.Points, b.Points) && a.Square == b.Square
}

func equalBeams(a, b api.ImageBeam) bool {
	return slices.Equal(a.Walls, b.Walls) && a.At == b.At && a.From == b.From && a.To == b.To && a.Next == b.Next
}

// isNoPath tells whether all that a path has is its zero value.
func isNoPath(p api.ImagePath) bool {
	return len(p.Surfaces) == 0 && len(p.Points) == 0 && p.Square == 0
}

func wantErrno(t *testing.T, what string, got, want api.Errno) {
	t.Helper()
	if got != want {
		t.Errorf("%s: error %d, want %d", what, got, want)
	}
}

// The halls of these tests are right, and the crowded one has as many settings as it says.
func TestHalls(t *testing.T) {
	for name, h := range plans() {
		if m, e := hall.CheckHall(h); e != api.OK {
			t.Errorf("%s: %v, %d", name, m, e)
		}
	}
	for _, h := range []api.Hall{box(), sheltered(), angle(), tipped(), roofed(), crowded()} {
		if m, e := hall.CheckHall(h); e != api.OK {
			t.Errorf("%s: %v, %d", h.Name, m, e)
		}
	}
	if _, e := hall.SettingAt(crowded(), 0); e != api.ErrLarge {
		t.Errorf("the crowded hall: %d", e)
	}
}
