package hall_test

import (
	"strconv"
	"strings"
	"testing"

	"shoebox/api"
	"shoebox/hall"
)

type wrongHall struct {
	name  string
	spoil func(h *api.Hall)
	mark  api.HallMark
	errno api.Errno
}

func testWrongHalls(t *testing.T, cases []wrongHall) {
	t.Helper()
	for _, c := range cases {
		h := box()
		c.spoil(&h)
		if m, e := hall.CheckHall(h); m != c.mark || e != c.errno {
			t.Errorf("%s: %v, %d, want %v, %d", c.name, m, e, c.mark, c.errno)
		}
	}
}

// P1.1: right halls have no error and no mark.
func TestRightHalls(t *testing.T) {
	none := box()
	none.Canopies, none.Seats = nil, []api.HallSeat{}
	tall := box()
	tall.Height = api.MaxPlace
	flat := withPlan(2, api.HallCorner{X: -5000, Y: -5000}, api.HallCorner{X: 5000, Y: -5000}, api.HallCorner{X: 5000, Y: 5000}, api.HallCorner{X: -5000, Y: 5000})
	flat.Seats = []api.HallSeat{{Name: "floor", At: place(4999, -4999, 1)}, {Name: "n0", At: place(4999, -4999, 1)}}
	for name, h := range map[string]api.Hall{"box": box(), "wedge": wedge(), "none": none, "tall": tall, "flat": flat, "triangle": triangle()} {
		if m, e := hall.CheckHall(h); m != mark(0, 0) || e != api.OK {
			t.Errorf("%s: %v, %d", name, m, e)
		}
	}
}

func TestWrongNamesAndHeights(t *testing.T) {
	testWrongHalls(t, []wrongHall{
		{"no name", func(h *api.Hall) { h.Name = "" }, mark(0, 0), api.ErrName},
		{"a name of 13", func(h *api.Hall) { h.Name = "abcdefghijklm" }, mark(0, 0), api.ErrName},
		{"a name of 12", func(h *api.Hall) { h.Name = "Zz-abcdA0Yy9" }, mark(0, 0), api.OK},
		{"a digit first", func(h *api.Hall) { h.Name = "1a" }, mark(0, 0), api.ErrName},
		{"a dash first", func(h *api.Hall) { h.Name = "-a" }, mark(0, 0), api.ErrName},
		{"a blank", func(h *api.Hall) { h.Name = "a b" }, mark(0, 0), api.ErrName},
		{"no ASCII", func(h *api.Hall) { h.Name = "aä" }, mark(0, 0), api.ErrName},
		{"beside letters", func(h *api.Hall) { h.Name = "a[" }, mark(0, 0), api.ErrName},
		{"an at sign", func(h *api.Hall) { h.Name = "@" }, mark(0, 0), api.ErrName},
		{"a backquote", func(h *api.Hall) { h.Name = "a`" }, mark(0, 0), api.ErrName},
		{"a brace", func(h *api.Hall) { h.Name = "{" }, mark(0, 0), api.ErrName},
		{"a slash", func(h *api.Hall) { h.Name = "a/" }, mark(0, 0), api.ErrName},
		{"a colon", func(h *api.Hall) { h.Name = "a:" }, mark(0, 0), api.ErrName},
		{"height 1", func(h *api.Hall) { h.Height = 1 }, mark(0, 0), api.ErrRange},
		{"height 5001", func(h *api.Hall) { h.Height = 5001 }, mark(0, 0), api.ErrRange},
		{"name ahead of height", func(h *api.Hall) { h.Height, h.Name = 0, "" }, mark(0, 0), api.ErrName},
		{"height ahead of materials", func(h *api.Hall) { h.Height, h.Materials = 0, nil }, mark(0, 0), api.ErrRange},
	})
}

func TestWrongMaterials(t *testing.T) {
	fill := func(count int) func(h *api.Hall) {
		return func(h *api.Hall) {
			for i := len(h.Materials); i < count; i++ {
				h.Materials = append(h.Materials, api.HallMaterial{Name: "m" + strconv.Itoa(i)})
			}
		}
	}
	testWrongHalls(t, []wrongHall{
		{"10", fill(10), mark(0, 0), api.OK},
		{"11", fill(11), mark(0, 0), api.ErrLarge},
		{"too many ahead of names", func(h *api.Hall) { h.Materials[0].Name = ""; fill(11)(h) }, mark(0, 0), api.ErrLarge},
		{"no name", func(h *api.Hall) { h.Materials[1].Name = "-" }, mark(api.HallMaterials, 1), api.ErrName},
		{"one name twice", func(h *api.Hall) { h.Materials[1] = h.Materials[0] }, mark(api.HallMaterials, 1), api.ErrExists},
		{"name ahead of range", func(h *api.Hall) { h.Materials[1].Name, h.Materials[1].Absorbed[0] = "w", -1 }, mark(api.HallMaterials, 1), api.ErrExists},
		{"absorbed -1", func(h *api.Hall) { h.Materials[0].Absorbed[0] = -1 }, mark(api.HallMaterials, 0), api.ErrRange},
		{"absorbed 1001", func(h *api.Hall) { h.Materials[1].Absorbed[3] = 1001 }, mark(api.HallMaterials, 1), api.ErrRange},
		{"scattered -1", func(h *api.Hall) { h.Materials[1].Scattered = -1 }, mark(api.HallMaterials, 1), api.ErrRange},
		{"scattered 1001", func(h *api.Hall) { h.Materials[1].Scattered = 1001 }, mark(api.HallMaterials, 1), api.ErrRange},
		{"1000", func(h *api.Hall) { h.Materials[1].Scattered, h.Materials[1].Absorbed[2] = 1000, 1000 }, mark(0, 0), api.OK},
		{"the first one decides", func(h *api.Hall) { h.Materials[0].Scattered, h.Materials[1].Name = 1001, "" }, mark(api.HallMaterials, 0), api.ErrRange},
		{"case counts", func(h *api.Hall) { h.Materials[1].Name = "W"; h.Walls[1].Curtain = "W" }, mark(0, 0), api.OK},
	})
}

func TestWrongParts(t *testing.T) {
	corners := func(n int) func(h *api.Hall) {
		return func(h *api.Hall) { h.Corners = h.Corners[:n] }
	}
	testWrongHalls(t, []wrongHall{
		{"floor", func(h *api.Hall) { h.Floor = "x" }, mark(0, 0), api.ErrMissing},
		{"no floor", func(h *api.Hall) { h.Floor = "" }, mark(0, 0), api.ErrMissing},
		{"ceiling", func(h *api.Hall) { h.Ceiling = "a" }, mark(0, 0), api.ErrMissing},
		{"floor ahead of shape", func(h *api.Hall) { h.Ceiling, h.Walls = "", nil }, mark(0, 0), api.ErrMissing},
		{"no corners", func(h *api.Hall) { h.Corners, h.Walls = nil, nil }, mark(0, 0), api.ErrShape},
		{"two corners", func(h *api.Hall) { h.Corners, h.Walls = h.Corners[:2], h.Walls[:2] }, mark(0, 0), api.ErrShape},
		{"fewer corners", corners(3), mark(0, 0), api.ErrShape},
		{"fewer walls", func(h *api.Hall) { h.Walls = h.Walls[:3] }, mark(0, 0), api.ErrShape},
		{"shape ahead of corners", func(h *api.Hall) { h.Walls, h.Corners[0].X = nil, 9999 }, mark(0, 0), api.ErrShape},
	})
	if m, e := hall.CheckHall(stairs(5)); m != mark(0, 0) || e != api.OK {
		t.Errorf("12 walls: %v, %d", m, e)
	}
	long := stairs(6)
	long.Walls[0].Name = ""
	if m, e := hall.CheckHall(long); m != mark(0, 0) || e != api.ErrLarge {
		t.Errorf("14 walls: %v, %d", m, e)
	}
}

// stairs is a hall with two walls for each step, and two more.
func stairs(steps int) api.Hall {
	l := []api.HallCorner{{X: 0, Y: 0}}
	for i := range steps {
		x := 10 * (steps - i)
		l = append(l, api.HallCorner{X: x, Y: 10 * i}, api.HallCorner{X: x, Y: 10 * (i + 1)})
	}
	return withPlan(5, append(l, api.HallCorner{X: 0, Y: 10 * steps})...)
}

func TestWrongCorners(t *testing.T) {
	testWrongHalls(t, []wrongHall{
		{"X too great", func(h *api.Hall) { h.Corners[1].X = 5001 }, mark(api.HallCorners, 1), api.ErrRange},
		{"Y too small", func(h *api.Hall) { h.Corners[3].Y = -5001 }, mark(api.HallCorners, 3), api.ErrRange},
		{"the least int", func(h *api.Hall) { h.Corners[2].Y = -1 << 63 }, mark(api.HallCorners, 2), api.ErrRange},
		{"corners ahead of walls", func(h *api.Hall) { h.Corners[3].Y, h.Walls[0].Name = 5001, "" }, mark(api.HallCorners, 3), api.ErrRange},
	})
}

func TestWrongWalls(t *testing.T) {
	testWrongHalls(t, []wrongHall{
		{"name", func(h *api.Hall) { h.Walls[0].Name = "a.b" }, mark(api.HallWalls, 0), api.ErrName},
		{"one name twice", func(h *api.Hall) { h.Walls[3].Name = "b" }, mark(api.HallWalls, 3), api.ErrExists},
		{"floor", func(h *api.Hall) { h.Walls[3].Name = "floor" }, mark(api.HallWalls, 3), api.ErrExists},
		{"ceiling", func(h *api.Hall) { h.Walls[0].Name = "ceiling" }, mark(api.HallWalls, 0), api.ErrExists},
		{"material", func(h *api.Hall) { h.Walls[2].Material = "x" }, mark(api.HallWalls, 2), api.ErrMissing},
		{"no material", func(h *api.Hall) { h.Walls[2].Material = "" }, mark(api.HallWalls, 2), api.ErrMissing},
		{"curtain", func(h *api.Hall) { h.Walls[2].Curtain = "x" }, mark(api.HallWalls, 2), api.ErrMissing},
		{"no curtain", func(h *api.Hall) { h.Walls[1].Curtain = "" }, mark(0, 0), api.OK},
		{"nothing", func(h *api.Hall) { h.Corners[2] = h.Corners[1] }, mark(api.HallWalls, 1), api.ErrZero},
		{"the last wall nothing", func(h *api.Hall) { h.Corners[3] = h.Corners[0]; h.Corners[2].Y = 1000 }, mark(api.HallWalls, 3), api.ErrZero},
		{"slanting", func(h *api.Hall) { h.Corners[2].Y = 2001 }, mark(api.HallWalls, 2), api.ErrKind},
		{"the last wall slanting", func(h *api.Hall) { h.Corners[0].X = -1; h.Corners[1].Y = 0; h.Corners[0].Y = 0 }, mark(api.HallWalls, 3), api.ErrKind},
		{"order of one wall's errors", func(h *api.Hall) {
			h.Walls[2].Name, h.Walls[2].Material, h.Corners[2].Y = "a", "x", 2001
		}, mark(api.HallWalls, 2), api.ErrExists},
		{"missing ahead of kind", func(h *api.Hall) { h.Walls[2].Material, h.Corners[2].Y = "x", 2001 }, mark(api.HallWalls, 2), api.ErrMissing},
		{"the first wall decides", func(h *api.Hall) { h.Walls[3].Name, h.Corners[2].Y = "", 2001 }, mark(api.HallWalls, 2), api.ErrKind},
		{"kind ahead of plan", func(h *api.Hall) { h.Corners[0], h.Corners[2] = api.HallCorner{X: 3, Y: 1}, h.Corners[0] }, mark(api.HallWalls, 0), api.ErrKind},
	})
}

func TestWrongPlans(t *testing.T) {
	c := func(numbers ...int) []api.HallCorner {
		var l []api.HallCorner
		for i := 0; i < len(numbers); i += 2 {
			l = append(l, api.HallCorner{X: numbers[i], Y: numbers[i+1]})
		}
		return l
	}
	for _, x := range []struct {
		name    string
		corners []api.HallCorner
		errno   api.Errno
	}{
		{"clockwise", c(0, 0, 0, 20, 10, 20, 10, 0), api.ErrOrder},
		{"clockwise triangle", c(0, 0, 0, 10, 10, 0), api.ErrOrder},
		{"counter-clockwise triangle", c(0, 0, 10, 0, 0, 10), api.OK},
		{"crossing diagonals", c(0, 0, 10, 10, 0, 10, 10, 0), api.ErrBreak},
		{"crossing between the numbers", c(0, 0, 5, 5, 0, 5, 5, 0), api.ErrBreak},
		{"touching in a corner", c(0, 0, 10, 0, 10, 10, 20, 10, 20, 20, 10, 20, 10, 10, 0, 10), api.ErrBreak},
		{"a corner on a wall", c(0, 0, 10, 0, 10, 10, 5, 0, 5, 10, 0, 10), api.ErrKind},
		{"a tip on a wall", c(0, 0, 20, 0, 20, 10, 15, 5, 10, 0, 0, 10), api.ErrBreak},
		{"a tip on the first wall", c(0, 0, 20, 0, 20, 10, 10, 0, 0, 10), api.ErrBreak},
		{"walls in one line apart", c(0, 0, 10, 0, 10, 5, 20, 5, 20, 0, 30, 0, 30, 10, 0, 10), api.OK},
		{"walls in one line overlapping", c(0, 0, 20, 0, 20, 5, 10, 5, 10, 0, 30, 0, 30, 10, 0, 10), api.ErrBreak},
		{"straight on", c(0, 0, 5, 0, 10, 0, 10, 10, 0, 10), api.OK},
		{"straight on in a diagonal", c(0, 0, 5, 5, 10, 10, 0, 10), api.OK},
		{"turning back", c(0, 0, 10, 0, 5, 0, 5, 10, 0, 10), api.ErrBreak},
		{"turning back beyond", c(0, 0, 10, 0, 10, 10, 0, 10, 0, -5), api.ErrBreak},
		{"no area", c(0, 0, 10, 0, 5, 0), api.ErrBreak},
		{"no area with four", c(0, 0, 10, 0, 10, 10, 10, 0), api.ErrBreak},
		{"twice around", c(0, 0, 10, 0, 10, 10, 0, 10, 0, 0, 10, 0, 10, 10, 0, 10), api.ErrBreak},
		{"an eight", c(0, 0, 20, 0, 20, 20, 10, 20, 10, -10, 0, -10), api.ErrBreak},
	} {
		h := withPlan(5, x.corners...)
		want := mark(0, 0)
		if x.errno == api.ErrKind {
			want = mark(api.HallWalls, 2)
		}
		if m, e := hall.CheckHall(h); m != want || e != x.errno {
			t.Errorf("%s: %v, %d", x.name, m, e)
		}
	}
}

func TestWrongCanopies(t *testing.T) {
	one := func(change func(c *api.HallCanopy)) func(h *api.Hall) {
		return func(h *api.Hall) { change(&h.Canopies[0]) }
	}
	fill := func(count int) func(h *api.Hall) {
		return func(h *api.Hall) {
			for i := 1; i < count; i++ {
				c := h.Canopies[0]
				c.Name = "k" + strconv.Itoa(i)
				h.Canopies = append(h.Canopies, c)
			}
		}
	}
	hangs := mark(api.HallCanopies, 0)
	testWrongHalls(t, []wrongHall{
		{"4 in one place", fill(4), mark(0, 0), api.OK},
		{"5", fill(5), mark(0, 0), api.ErrLarge},
		{"too many ahead of names", func(h *api.Hall) { h.Canopies[0].Name = ""; fill(5)(h) }, mark(0, 0), api.ErrLarge},
		{"name", one(func(c *api.HallCanopy) { c.Name = "" }), hangs, api.ErrName},
		{"a wall's name", one(func(c *api.HallCanopy) { c.Name = "d" }), hangs, api.ErrExists},
		{"the floor's name", one(func(c *api.HallCanopy) { c.Name = "floor" }), hangs, api.ErrExists},
		{"the ceiling's name", one(func(c *api.HallCanopy) { c.Name = "ceiling" }), hangs, api.ErrExists},
		{"a canopy's name", func(h *api.Hall) { fill(3)(h); h.Canopies[2].Name = "k" }, mark(api.HallCanopies, 2), api.ErrExists},
		{"a material's name", one(func(c *api.HallCanopy) { c.Name = "w" }), mark(0, 0), api.OK},
		{"material", one(func(c *api.HallCanopy) { c.Material = "" }), hangs, api.ErrMissing},
		{"no heights", one(func(c *api.HallCanopy) { c.Heights = nil }), hangs, api.ErrShape},
		{"4 heights", one(func(c *api.HallCanopy) { c.Heights = []int{1, 2, 3, 599} }), mark(0, 0), api.OK},
		{"5 heights", one(func(c *api.HallCanopy) { c.Heights = []int{1, 2, 3, 4, 5} }), hangs, api.ErrShape},
		{"height 0", one(func(c *api.HallCanopy) { c.Heights = []int{0, 2} }), hangs, api.ErrRange},
		{"height of the ceiling", one(func(c *api.HallCanopy) { c.Heights = []int{1, 600} }), hangs, api.ErrRange},
		{"heights alike", one(func(c *api.HallCanopy) { c.Heights = []int{5, 5} }), hangs, api.ErrOrder},
		{"heights descend", one(func(c *api.HallCanopy) { c.Heights = []int{5, 7, 6} }), hangs, api.ErrOrder},
		{"the first height decides", one(func(c *api.HallCanopy) { c.Heights = []int{5, 4, 600} }), hangs, api.ErrOrder},
		{"range ahead of order", one(func(c *api.HallCanopy) { c.Heights = []int{5, 0} }), hangs, api.ErrRange},
		{"From.X too great", one(func(c *api.HallCanopy) { c.From.X = 5001 }), hangs, api.ErrRange},
		{"From.Y too small", one(func(c *api.HallCanopy) { c.From.Y = -5001 }), hangs, api.ErrRange},
		{"To.X too great", one(func(c *api.HallCanopy) { c.To.X = 5001 }), hangs, api.ErrRange},
		{"To.Y the least int", one(func(c *api.HallCanopy) { c.To.Y = -1 << 63 }), hangs, api.ErrRange},
		{"range ahead of zero", one(func(c *api.HallCanopy) { c.From.X, c.To.X = 5001, 5001 }), hangs, api.ErrRange},
		{"far outside", one(func(c *api.HallCanopy) { c.To.X = 5000 }), hangs, api.ErrBreak},
		{"heights ahead of corners", one(func(c *api.HallCanopy) { c.From.X, c.Heights = 5001, nil }), hangs, api.ErrShape},
		{"the same X", one(func(c *api.HallCanopy) { c.To.X = 200 }), hangs, api.ErrZero},
		{"the same Y", one(func(c *api.HallCanopy) { c.To.Y = 500 }), hangs, api.ErrZero},
		{"zero ahead of break", one(func(c *api.HallCanopy) { c.To.X, c.From.X = 3000, 3000 }), hangs, api.ErrZero},
		{"at a wall", one(func(c *api.HallCanopy) { c.To.X = 1000 }), hangs, api.ErrBreak},
		{"just off a wall", one(func(c *api.HallCanopy) { c.From.X, c.To.X = 1, 999 }), mark(0, 0), api.OK},
		{"the other corners", one(func(c *api.HallCanopy) { c.From.X, c.To.X = c.To.X, c.From.X }), mark(0, 0), api.OK},
		{"through a wall", one(func(c *api.HallCanopy) { c.From.Y = -10 }), hangs, api.ErrBreak},
		{"around the plan", one(func(c *api.HallCanopy) {
			c.From, c.To = api.HallCorner{X: -10, Y: -10}, api.HallCorner{X: 2010, Y: 2010}
		}), hangs, api.ErrBreak},
		{"beside the plan", one(func(c *api.HallCanopy) { c.From.X, c.To.X = 1100, 1200 }), hangs, api.ErrBreak},
		{"canopies ahead of seats", func(h *api.Hall) { h.Seats[0].Name, h.Canopies[0].Heights = "", nil }, hangs, api.ErrShape},
	})
}

// P1.1: a canopy may not reach over a corner that turns inwards, though its own corners lie inside.
func TestCanopyOverInwardCorner(t *testing.T) {
	u := withPlan(5, api.HallCorner{X: 0, Y: 0}, api.HallCorner{X: 30, Y: 0}, api.HallCorner{X: 30, Y: 20}, api.HallCorner{X: 20, Y: 20},
		api.HallCorner{X: 20, Y: 10}, api.HallCorner{X: 10, Y: 10}, api.HallCorner{X: 10, Y: 20}, api.HallCorner{X: 0, Y: 20})
	for _, c := range []struct {
		from, to api.HallCorner
		errno    api.Errno
	}{
		{api.HallCorner{X: 5, Y: 5}, api.HallCorner{X: 25, Y: 15}, api.ErrBreak},
		{api.HallCorner{X: 5, Y: 5}, api.HallCorner{X: 25, Y: 10}, api.ErrBreak},
		{api.HallCorner{X: 5, Y: 5}, api.HallCorner{X: 25, Y: 9}, api.OK},
		{api.HallCorner{X: 25, Y: 15}, api.HallCorner{X: 21, Y: 5}, api.OK},
		{api.HallCorner{X: 12, Y: 12}, api.HallCorner{X: 18, Y: 18}, api.ErrBreak},
	} {
		h := u
		h.Canopies = []api.HallCanopy{{Name: "k", Material: "w", From: c.from, To: c.to, Heights: []int{2}}}
		want := mark(0, 0)
		if c.errno != api.OK {
			want = mark(api.HallCanopies, 0)
		}
		if m, e := hall.CheckHall(h); m != want || e != c.errno {
			t.Errorf("%v to %v: %v, %d", c.from, c.to, m, e)
		}
	}
}

func TestWrongSeats(t *testing.T) {
	fill := func(count int) func(h *api.Hall) {
		return func(h *api.Hall) {
			for i := len(h.Seats); i < count; i++ {
				h.Seats = append(h.Seats, api.HallSeat{Name: "p" + strconv.Itoa(i), At: place(1, 1, 1)})
			}
		}
	}
	put := func(x, y, z int) func(h *api.Hall) {
		return func(h *api.Hall) { h.Seats[1].At = place(x, y, z) }
	}
	sits := mark(api.HallSeats, 1)
	testWrongHalls(t, []wrongHall{
		{"40 seats, many in one place", fill(40), mark(0, 0), api.OK},
		{"41", fill(41), mark(0, 0), api.ErrLarge},
		{"too many ahead of names", func(h *api.Hall) { h.Seats[0].Name = ""; fill(41)(h) }, mark(0, 0), api.ErrLarge},
		{"name", func(h *api.Hall) { h.Seats[1].Name = strings.Repeat("a", 13) }, sits, api.ErrName},
		{"one name twice", func(h *api.Hall) { h.Seats[1].Name = "s" }, sits, api.ErrExists},
		{"a wall's name", func(h *api.Hall) { h.Seats[1].Name = "a" }, mark(0, 0), api.OK},
		{"out of range", put(0, -5001, 1), sits, api.ErrRange},
		{"range ahead of break", put(0, 0, 5001), sits, api.ErrRange},
		{"the least int", put(-1<<63, 1, 1), sits, api.ErrRange},
		{"on the floor", put(1, 1, 0), sits, api.ErrBreak},
		{"on the ceiling", put(1, 1, 600), sits, api.ErrBreak},
		{"under the ceiling", put(1, 1, 599), mark(0, 0), api.OK},
		{"on a wall", put(1000, 1, 1), sits, api.ErrBreak},
		{"on a corner", put(0, 0, 1), sits, api.ErrBreak},
		{"outside", put(-1, 1, 1), sits, api.ErrBreak},
		{"on a canopy", put(500, 700, 400), mark(0, 0), api.OK},
		{"the first one decides", func(h *api.Hall) { h.Seats[0].At.Z, h.Seats[1].Name = 0, "" }, mark(api.HallSeats, 0), api.ErrBreak},
	})
}

// P1.1: the names of walls, floor, ceiling and canopies, in this order.
func TestSurfaces(t *testing.T) {
	l, e := hall.Surfaces(wedge())
	if got := strings.Join(l, " "); got != "w0 w1 w2 w3 w4 w5 w6 w7 floor ceiling k1 k2" || e != api.OK {
		t.Errorf("%s, %d", got, e)
	}
}
