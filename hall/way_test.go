package hall_test

import (
	"testing"

	"shoebox/api"
	"shoebox/hall"
)

const leastInt = -1 << 63

// P1.5: the mirror images of the examples, and in planes of all kinds.
func TestMirrorIn(t *testing.T) {
	for _, c := range []struct {
		plane    api.HallPlane
		at, want api.Place
	}{
		{plane(api.PlaneX, 1000), place(300, 700, 150), place(1700, 700, 150)},
		{plane(api.PlaneX, -7), place(-8, 1, 2), place(-6, 1, 2)},
		{plane(api.PlaneY, 5), place(1, 2, 3), place(1, 8, 3)},
		{plane(api.PlaneZ, 600), place(1, 2, 100), place(1, 2, 1100)},
		{plane(api.PlaneSum, 1000), place(300, 700, 150), place(300, 700, 150)},
		{plane(api.PlaneSum, 1000), place(0, 0, 5), place(1000, 1000, 5)},
		{plane(api.PlaneSum, 10), place(1, 2, 3), place(8, 9, 3)},
		{plane(api.PlaneLess, 200), place(0, 0, 5), place(200, -200, 5)},
		{plane(api.PlaneLess, 10), place(1, 2, 3), place(12, -9, 3)},
		{plane(api.PlaneX, 10000), place(-25000, 45000, -45000), place(45000, 45000, -45000)},
	} {
		if p, e := hall.MirrorIn(c.plane, c.at); p != c.want || e != api.OK {
			t.Errorf("%v in %v: %v, %d", c.at, c.plane, p, e)
		}
	}
}

func TestMirrorErrors(t *testing.T) {
	for _, c := range []struct {
		plane api.HallPlane
		at    api.Place
		errno api.Errno
	}{
		{plane(5, 99999), place(99999, 0, 0), api.ErrKind},
		{plane(-1, 0), place(0, 0, 0), api.ErrKind},
		{plane(api.PlaneX, 10001), place(99999, 0, 0), api.ErrRange},
		{plane(api.PlaneZ, -10001), place(0, 0, 0), api.ErrRange},
		{plane(api.PlaneZ, leastInt), place(0, 0, 0), api.ErrRange},
		{plane(api.PlaneX, 10000), place(45001, 0, 0), api.ErrRange},
		{plane(api.PlaneX, 10000), place(0, -45001, 0), api.ErrRange},
		{plane(api.PlaneX, 10000), place(0, 0, leastInt), api.ErrRange},
		{plane(api.PlaneX, 0), place(0, 0, 45001), api.ErrRange},
		{plane(api.PlaneX, 10000), place(-25001, 0, 0), api.ErrLarge},
		{plane(api.PlaneY, -10000), place(0, 25001, 0), api.ErrLarge},
		{plane(api.PlaneZ, 1), place(0, 0, -45000), api.ErrLarge},
		{plane(api.PlaneSum, 10000), place(0, -35001, 0), api.ErrLarge},
		{plane(api.PlaneLess, -10000), place(35001, 0, 0), api.ErrLarge},
		{plane(api.PlaneSum, 10000), place(-35000, -35000, 0), api.OK},
		{plane(api.PlaneX, -10000), place(25000, 0, 0), api.OK},
	} {
		p, e := hall.MirrorIn(c.plane, c.at)
		wantErrno(t, "MirrorIn", e, c.errno)
		if e != api.OK && p != (api.Place{}) {
			t.Errorf("%v in %v: %v beside an error", c.at, c.plane, p)
		}
	}
}

// P1.6: points strictly inside of the box, in numbers and in fractions.
func TestIsInside(t *testing.T) {
	for _, c := range []struct {
		p    api.HallPoint
		want bool
	}{
		{at(500, 1000, 300), true},
		{at(1, 1, 1), true},
		{at(999, 1999, 599), true},
		{at(0, 100, 100), false},
		{at(1000, 100, 100), false},
		{at(100, 0, 100), false},
		{at(100, 2000, 100), false},
		{at(0, 0, 100), false},
		{at(100, 100, 0), false},
		{at(100, 100, 600), false},
		{at(-1, 100, 100), false},
		{at(100, 2001, 100), false},
		{at(100, 100, 601), false},
		{at(500, 700, 400), true},
		{over(1, 1, 1, 100000), true},
		{over(99999999, 1, 1, 100000), true},
		{over(100000001, 1, 1, 100000), false},
		{over(1, 1, 1199, 2), true},
		{over(1, 1, 1201, 2), false},
		{over(-1, 1, 1, 2), false},
	} {
		if in, e := hall.IsInside(box(), c.p); in != c.want || e != api.OK {
			t.Errorf("%v: %v, %d", c.p, in, e)
		}
	}
}

// pointCases is points with their errors, in the order of errors.
var pointCases = []struct {
	p     api.HallPoint
	errno api.Errno
}{
	{at(1, 2, 3), api.OK},
	{over(0, 0, 0, 1), api.OK},
	{over(0, 0, 0, 0), api.ErrForm},
	{over(1, 2, 3, 0), api.ErrForm},
	{over(1, 2, 3, -1), api.ErrForm},
	{over(leastInt, leastInt, leastInt, leastInt), api.ErrForm},
	{over(0, 0, 0, 2), api.ErrForm},
	{over(2, 4, 6, 2), api.ErrForm},
	{over(-3, 6, 0, 9), api.ErrForm},
	{over(0, 100001, 0, 100001), api.ErrForm},
	{over(-2, 4, 3, 2), api.OK},
	{over(6, 10, 15, 30), api.OK},
	{over(1, 0, 0, 100000), api.OK},
	{over(1, 0, 0, 100001), api.ErrRange},
	{over(1, 0, 0, 1<<63-1), api.ErrRange},
	{over(leastInt, 0, 0, 1<<62), api.ErrForm},
	{over(leastInt, 0, 0, 3), api.ErrRange},
	{over(0, leastInt, 0, 1), api.ErrRange},
	{at(5000, -5000, 5000), api.OK},
	{at(5001, 0, 0), api.ErrRange},
	{at(0, -5001, 0), api.ErrRange},
	{at(0, 0, 5001), api.ErrRange},
	{over(10001, 0, 0, 2), api.ErrRange},
	{over(9999, 0, 0, 2), api.OK},
	{over(499999999, 1, -500000000, 100000), api.OK},
	{over(1, 1, -500000001, 100000), api.ErrRange},
}

// P1.6: the errors of points, wherever they stand, and their order.
func TestPointErrors(t *testing.T) {
	for _, c := range pointCases {
		in, e := hall.IsInside(box(), c.p)
		wantErrno(t, "IsInside", e, c.errno)
		other := over(1, 1, 1, 3)
		free, e := hall.IsFree(box(), low(), wayOf(c.p, other))
		wantErrno(t, "IsFree from", e, c.errno)
		back, e := hall.IsFree(box(), low(), wayOf(other, c.p))
		wantErrno(t, "IsFree to", e, c.errno)
		if e != api.OK && (in || free || back) {
			t.Errorf("%v: true beside an error", c.p)
		}
		_, e = hall.CrossAt(box(), low(), api.HallCross{Surface: 4, From: place(1, 1, 1), To: c.p})
		if e != c.errno && (c.errno != api.OK || e != api.ErrNone && e != api.ErrLarge) {
			t.Errorf("CrossAt to %v: %d", c.p, e)
		}
	}
	_, e := hall.IsFree(box(), low(), wayOf(over(0, 0, 0, 100001), at(9999, 0, 0)))
	wantErrno(t, "From ahead of To", e, api.ErrForm)
	_, e = hall.IsFree(box(), low(), wayOf(at(9999, 0, 0), over(0, 0, 0, 2)))
	wantErrno(t, "From ahead of To", e, api.ErrRange)
	_, e = hall.IsFree(box(), low(), wayOf(at(9999, 0, 0), at(9999, 0, 0)))
	wantErrno(t, "range ahead of zero", e, api.ErrRange)
	if free, e := hall.IsFree(box(), low(), wayOf(over(1, 1, 1, 2), over(1, 1, 1, 2))); free || e != api.ErrZero {
		t.Errorf("no way: %v, %d", free, e)
	}
}

// P1.6: free ways in the box, as the examples and the chapter's notes have them.
func TestIsFree(t *testing.T) {
	for _, c := range []struct {
		name     string
		from, to api.HallPoint
		want     bool
	}{
		{"along the hall", at(500, 100, 100), at(500, 1900, 100), true},
		{"through the canopy", at(500, 700, 100), at(500, 700, 550), false},
		{"in a wall", at(0, 100, 100), at(0, 200, 100), false},
		{"in a whole wall", at(0, 0, 100), at(0, 2000, 100), false},
		{"from wall to wall", at(0, 100, 100), at(1000, 100, 100), true},
		{"from corner to corner", at(0, 0, 100), at(1000, 2000, 100), true},
		{"from floor to ceiling", at(100, 100, 0), at(100, 100, 600), true},
		{"from the corner below to that above", at(0, 0, 0), at(1000, 2000, 600), true},
		{"upright in a wall", at(0, 100, 100), at(0, 100, 200), false},
		{"upright in a corner", at(0, 0, 100), at(0, 0, 200), false},
		{"along the floor", at(100, 100, 0), at(100, 200, 0), false},
		{"along the ceiling", at(100, 100, 600), at(100, 200, 600), false},
		{"from the floor", at(100, 100, 0), at(100, 200, 1), true},
		{"below the floor", at(100, 100, 100), at(100, 200, -1), false},
		{"above the ceiling", at(100, 100, 100), at(100, 200, 601), false},
		{"through a wall", at(500, 700, 100), at(1500, 700, 100), false},
		{"outside", at(1500, 700, 100), at(1600, 700, 100), false},
		{"through all", at(-500, 100, 100), at(1500, 100, 100), false},
		{"beside the canopy, at its height", at(100, 100, 400), at(100, 1900, 400), true},
		{"through the canopy, at its height", at(500, 100, 400), at(500, 1900, 400), false},
		{"within the canopy", at(400, 600, 400), at(500, 700, 400), false},
		{"along the canopy's edge", at(200, 100, 400), at(200, 1900, 400), false},
		{"part of the canopy's edge", at(200, 600, 400), at(200, 700, 400), false},
		{"up to the canopy's edge", at(100, 700, 400), at(200, 700, 400), true},
		{"on behind the canopy's edge", at(200, 100, 400), at(200, 500, 400), true},
		{"touching the canopy's corner", at(100, 600, 400), at(300, 400, 400), false},
		{"from the canopy upwards", at(500, 700, 400), at(500, 700, 500), true},
		{"from the canopy downwards", at(500, 700, 400), at(500, 700, 100), true},
		{"up to the canopy", at(500, 700, 100), at(500, 700, 400), true},
		{"past the canopy's edge", at(200, 700, 100), at(200, 700, 500), false},
		{"just beside the canopy's edge", at(199, 700, 100), at(199, 700, 500), true},
		{"in fractions through the edge", over(399, 1400, 799, 2), over(401, 1400, 801, 2), false},
		{"in fractions beside the edge", over(397, 1400, 799, 2), over(401, 1400, 801, 2), true},
		{"ends at a fraction of a wall", over(0, 301, 1, 3), over(2000, 301, 1, 2), true},
	} {
		if free, e := hall.IsFree(box(), low(), wayOf(c.from, c.to)); free != c.want || e != api.OK {
			t.Errorf("%s: %v, %d", c.name, free, e)
		}
		if free, e := hall.IsFree(box(), low(), wayOf(c.to, c.from)); free != c.want || e != api.OK {
			t.Errorf("%s, back: %v, %d", c.name, free, e)
		}
	}
	// the canopy hangs where the setting says
	if free, e := hall.IsFree(box(), high(), wayOf(at(500, 100, 400), at(500, 1900, 400))); !free || e != api.OK {
		t.Errorf("below the canopy at 500: %v, %d", free, e)
	}
}

// P1.6: where a straight way meets a surface well, and where it does not.
func TestCrossAt(t *testing.T) {
	for _, c := range []struct {
		name    string
		surface int
		from    api.Place
		to      api.HallPoint
		want    api.HallPoint
		errno   api.Errno
	}{
		{"straight", 1, place(1700, 700, 150), at(300, 700, 150), at(1000, 700, 150), api.OK},
		{"slanting", 1, place(1700, 100, 150), at(300, 800, 50), at(1000, 450, 100), api.OK},
		{"a third", 1, place(1500, 100, 50), at(0, 300, 50), over(3000, 500, 150, 3), api.OK},
		{"to a fraction", 1, place(1500, 100, 50), over(1000, 201, 100, 2), over(4000, 401, 200, 4), api.OK},
		{"the other way round", 1, place(300, 700, 150), at(1700, 700, 150), at(1000, 700, 150), api.OK},
		{"at Z 0", 1, place(1500, 100, 0), at(500, 100, 0), api.HallPoint{}, api.ErrNone},
		{"at the ceiling's height", 1, place(1500, 100, 600), at(500, 100, 600), api.HallPoint{}, api.ErrNone},
		{"above", 1, place(1500, 100, 900), at(500, 100, 600), api.HallPoint{}, api.ErrNone},
		{"at the wall's end", 1, place(1500, 0, 100), at(500, 0, 100), api.HallPoint{}, api.ErrNone},
		{"at the wall's other end", 1, place(1500, 2000, 100), at(500, 2000, 100), api.HallPoint{}, api.ErrNone},
		{"beside the wall", 1, place(1500, -1, 100), at(500, -1, 100), api.HallPoint{}, api.ErrNone},
		{"from the wall", 1, place(1000, 100, 100), at(500, 100, 100), api.HallPoint{}, api.ErrNone},
		{"to the wall", 1, place(500, 100, 100), at(1000, 100, 100), api.HallPoint{}, api.ErrNone},
		{"in the wall", 1, place(1000, 100, 100), at(1000, 200, 100), api.HallPoint{}, api.ErrNone},
		{"ahead of the wall", 1, place(100, 100, 100), at(900, 100, 100), api.HallPoint{}, api.ErrNone},
		{"no way", 1, place(1000, 100, 100), at(1000, 100, 100), api.HallPoint{}, api.ErrNone},
		{"ceiling", 5, place(500, 100, 1100), at(500, 100, 100), at(500, 100, 600), api.OK},
		{"floor", 4, place(500, 100, -100), at(400, 100, 100), at(450, 100, 0), api.OK},
		{"floor on a wall", 4, place(0, 100, -100), at(0, 100, 100), api.HallPoint{}, api.ErrNone},
		{"floor in a corner", 4, place(0, 0, -100), at(0, 0, 100), api.HallPoint{}, api.ErrNone},
		{"floor outside", 4, place(-1, 100, -100), at(-1, 100, 100), api.HallPoint{}, api.ErrNone},
		{"floor on it", 4, place(100, 100, 0), at(200, 100, 0), api.HallPoint{}, api.ErrNone},
		{"canopy from below", 6, place(500, 700, 100), at(500, 700, 600), at(500, 700, 400), api.OK},
		{"canopy from above", 6, place(500, 700, 45000), at(500, 700, 0), at(500, 700, 400), api.OK},
		{"canopy's edge", 6, place(200, 700, 100), at(200, 700, 600), api.HallPoint{}, api.ErrNone},
		{"canopy's other edge", 6, place(500, 900, 100), at(500, 900, 600), api.HallPoint{}, api.ErrNone},
		{"canopy's corner", 6, place(800, 900, 100), at(800, 900, 600), api.HallPoint{}, api.ErrNone},
		{"beside the canopy", 6, place(500, 499, 100), at(500, 499, 600), api.HallPoint{}, api.ErrNone},
		{"in the canopy", 6, place(500, 700, 400), at(600, 700, 400), api.HallPoint{}, api.ErrNone},
		{"greatest", 1, place(45000, 1, 1), at(999, 1, 1), at(1000, 1, 1), api.OK},
	} {
		x := api.HallCross{Surface: c.surface, From: c.from, To: c.to}
		if p, e := hall.CrossAt(box(), low(), x); p != c.want || e != c.errno {
			t.Errorf("%s: %v, %d", c.name, p, e)
		}
	}
	if p, e := hall.CrossAt(box(), high(), api.HallCross{Surface: 6, From: place(500, 700, 100), To: at(500, 700, 600)}); p != at(500, 700, 500) || e != api.OK {
		t.Errorf("the canopy at 500: %v, %d", p, e)
	}
}

// P1.6: the errors of CrossAt, and a denominator that is at its limit or beyond.
func TestCrossErrors(t *testing.T) {
	cross := func(surface int, from api.Place, to api.HallPoint) (api.HallPoint, api.Errno) {
		return hall.CrossAt(box(), low(), api.HallCross{Surface: surface, From: from, To: to})
	}
	for _, from := range []api.Place{place(45001, 0, 0), place(0, -45001, 0), place(0, 0, leastInt)} {
		_, e := cross(1, from, over(0, 0, 0, 2))
		wantErrno(t, "the place ahead of the point", e, api.ErrRange)
	}
	_, e := cross(7, place(45001, 0, 0), at(0, 0, 0))
	wantErrno(t, "the surface ahead of the place", e, api.ErrMissing)
	// from X 1001 to 1 / 99999 the wall at 1000 is at a share of 99999 / 100098998
	p, e := cross(1, place(1001, 1, 1), over(1, 199998, 99999, 99999))
	if p != (api.HallPoint{}) || e != api.ErrLarge {
		t.Errorf("too great: %v, %d", p, e)
	}
	// from Z -1 to 99999 the floor is at a share of 1 / 100000
	tall := withPlan(5000, api.HallCorner{X: 0, Y: 0}, api.HallCorner{X: 10, Y: 0}, api.HallCorner{X: 0, Y: 10})
	for _, c := range []struct {
		to    api.HallPoint
		want  api.HallPoint
		errno api.Errno
	}{
		{over(40, 20, 99980, 20), api.HallPoint{}, api.ErrForm},
		{over(21, 20, 99980, 20), over(100001, 100000, 0, 100000), api.OK},
		{over(33, 20, 100000, 20), api.HallPoint{}, api.ErrLarge},
	} {
		p, e := hall.CrossAt(tall, api.HallSetting{}, api.HallCross{Surface: 3, From: place(1, 1, -1), To: c.to})
		if p != c.want || e != c.errno {
			t.Errorf("to %v: %v, %d", c.to, p, e)
		}
	}
}

// P1.6: walls of a wedge: one behind the other, diagonal, and in one line.
func TestCrossWedge(t *testing.T) {
	s := api.HallSetting{Heights: []int{0, 0}}
	for _, c := range []struct {
		name    string
		surface int
		from    api.Place
		to      api.HallPoint
		want    api.HallPoint
		errno   api.Errno
	}{
		{"diagonal", 2, place(14, 6, 2), at(10, 10, 2), at(12, 8, 2), api.OK},
		{"diagonal in halves", 2, place(14, 7, 2), at(10, 10, 4), over(86, 58, 20, 7), api.OK},
		{"diagonal at its end", 2, place(12, 4, 2), at(8, 8, 2), api.HallPoint{}, api.ErrNone},
		{"beyond its end", 2, place(10, 4, 2), at(6, 8, 2), api.HallPoint{}, api.ErrNone},
		{"the other diagonal", 4, place(16, 26, 2), at(10, 20, 2), at(13, 23, 2), api.OK},
		{"along a diagonal", 4, place(16, 20, 2), at(10, 26, 2), api.HallPoint{}, api.ErrNone},
		{"the corner between two in one line, above", 6, place(-5, 10, 2), at(5, 10, 2), api.HallPoint{}, api.ErrNone},
		{"the corner between two in one line, below", 7, place(-5, 10, 2), at(5, 10, 2), api.HallPoint{}, api.ErrNone},
		{"above this corner", 6, place(-5, 11, 2), at(5, 11, 2), at(0, 11, 2), api.OK},
		{"above this corner, the other one", 7, place(-5, 11, 2), at(5, 11, 2), api.HallPoint{}, api.ErrNone},
		{"floor beside the diagonal", 8, place(13, 8, -2), at(13, 8, 2), api.HallPoint{}, api.ErrNone},
		{"floor on the diagonal", 8, place(12, 8, -2), at(12, 8, 2), api.HallPoint{}, api.ErrNone},
		{"floor within the diagonal", 8, place(12, 9, -2), at(12, 9, 2), at(12, 9, 0), api.OK},
		{"canopy given from its greatest corner", 10, place(3, 4, 1), at(3, 4, 5), at(3, 4, 3), api.OK},
	} {
		x := api.HallCross{Surface: c.surface, From: c.from, To: c.to}
		if p, e := hall.CrossAt(wedge(), s, x); p != c.want || e != c.errno {
			t.Errorf("%s: %v, %d", c.name, p, e)
		}
	}
}

// P1.6: the seats that are seen from a place, or are there.
func TestSeatsSeen(t *testing.T) {
	for _, c := range []struct {
		name string
		s    api.HallSetting
		from api.Place
		want []int
	}{
		{"the second one behind the canopy", low(), place(500, 650, 100), []int{0}},
		{"both", low(), place(500, 1950, 500), []int{0, 1}},
		{"from a seat", low(), place(500, 1900, 100), []int{0, 1}},
		{"from the other seat", low(), place(500, 700, 550), []int{0, 1}},
		{"from the canopy", low(), place(500, 700, 400), []int{0, 1}},
		{"below the canopy at 500", high(), place(500, 1000, 450), []int{0}},
		{"the same above it at 400", low(), place(500, 1000, 450), []int{0, 1}},
	} {
		if l, e := hall.SeatsSeen(box(), c.s, c.from); !equal(l, c.want) || e != api.OK {
			t.Errorf("%s: %v, %d", c.name, l, e)
		}
	}
	s := api.HallSetting{Heights: []int{0, 1}}
	if l, e := hall.SeatsSeen(wedge(), s, place(14, 14, 1)); !equal(l, []int{0, 1, 2}) || e != api.OK {
		t.Errorf("from the double seat: %v, %d", l, e)
	}
	if l, e := hall.SeatsSeen(wedge(), s, place(9, 1, 1)); !equal(l, []int{0}) || e != api.OK {
		t.Errorf("ahead of the inward corner: %v, %d", l, e)
	}
	crowd := box()
	crowd.Seats[0].At = place(500, 700, 400)
	crowd.Canopies = append(crowd.Canopies, crowd.Canopies[0])
	crowd.Canopies[1].Name = "l"
	if l, e := hall.SeatsSeen(crowd, api.HallSetting{Heights: []int{0, 1}}, place(500, 700, 400)); !equal(l, []int{0}) || e != api.OK {
		t.Errorf("from a seat on one canopy, below the other: %v, %d", l, e)
	}
}

func TestSeatsSeenErrors(t *testing.T) {
	for _, c := range []struct {
		from  api.Place
		errno api.Errno
	}{
		{place(5001, 0, 0), api.ErrRange},
		{place(0, 0, -5001), api.ErrRange},
		{place(leastInt, 0, 0), api.ErrRange},
		{place(0, 1, 1), api.ErrBreak},
		{place(1, 1, 0), api.ErrBreak},
		{place(1, 1, 600), api.ErrBreak},
		{place(5000, 5000, 5000), api.ErrBreak},
	} {
		if l, e := hall.SeatsSeen(box(), low(), c.from); len(l) != 0 || e != c.errno {
			t.Errorf("%v: %v, %d", c.from, l, e)
		}
	}
}
