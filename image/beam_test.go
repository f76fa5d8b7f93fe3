package image_test

import (
	"math/rand"
	"slices"
	"testing"

	"shoebox/api"
	"shoebox/image"
)

// P2.4: rays that are followed.
func TestFollow(t *testing.T) {
	middle := corner(500, 1000)
	for _, c := range []struct {
		name  string
		h     api.Hall
		from  api.HallCorner
		turn  api.ImageTurn
		order int
		want  []int
		errno api.Errno
	}{
		{"to and fro", box(), middle, turn(1, 0), 3, list(1, 3, 1), api.OK},
		{"nowhere", box(), middle, turn(1, 0), 0, nil, api.OK},
		{"once", box(), middle, turn(-1, 0), 1, list(3), api.OK},
		{"four times", box(), middle, turn(0, 1), 4, list(2, 0, 2, 0), api.OK},
		{"around", box(), middle, turn(3, 5), 4, list(1, 2, 3, 0), api.OK},
		{"along the tip's side", tipped(), corner(20, 15), turn(3, -1), 2, list(3, 0), api.OK},
		{"to a corner", box(), middle, turn(1, 2), 1, nil, api.ErrBreak},
		{"nowhere towards a corner", box(), middle, turn(1, 2), 0, nil, api.OK},
		{"to a corner at last", box(), middle, turn(3, 2), 2, nil, api.ErrBreak},
		{"up to the wall ahead of the corner", box(), middle, turn(3, 2), 1, list(1), api.OK},
		{"not beyond the corner", box(), middle, turn(3, 2), 4, nil, api.ErrBreak},
		{"touching a tip", tipped(), corner(22, 10), turn(1, 0), 1, nil, api.ErrBreak},
		{"below the tip", tipped(), corner(22, 9), turn(1, 0), 1, list(1), api.OK},
		{"above the tip's end", tipped(), corner(22, 11), turn(1, 0), 1, list(3), api.OK},
		{"along a wall's line", angle(), corner(10, 20), turn(1, 0), 1, nil, api.ErrBreak},
		{"along a wall's line, the other way", angle(), corner(10, 20), turn(-1, 0), 1, list(5), api.OK},
		{"reflected into a wall's line", angle(), corner(10, 20), turn(-1, 0), 2, nil, api.ErrBreak},
		{"between walls in one line", plans()["straight"], corner(10, 5), turn(0, -1), 1, nil, api.ErrBreak},
		{"beside the corner of walls in one line", plans()["straight"], corner(9, 5), turn(0, -1), 1, list(0), api.OK},
		{"in a diagonal wall", plans()["octagon"], corner(12, 4), turn(1, 0), 4, list(1, 3, 5, 7), api.OK},
		{"the greatest turn", box(), middle, turn(100000, 99999), 2, list(1, 2), api.OK},
	} {
		if l, e := image.Follow(c.h, c.from, c.turn, c.order); !slices.Equal(l, c.want) || e != c.errno {
			t.Errorf("%s: %v, %d, want %v, %d", c.name, l, e, c.want, c.errno)
		}
	}
}

// P2.4: rays in all directions, and towards corners and their images, against slow ones.
func TestFollowAgainstSlow(t *testing.T) {
	r := rand.New(rand.NewSource(5))
	right, broken := 0, 0
	for name, h := range plans() {
		for range 300 {
			from := somewhere(r, h)
			to := reducedTurn(r.Intn(2001)-1000, 1+r.Intn(1000))
			if c := h.Corners[r.Intn(len(h.Corners))]; r.Intn(2) == 0 {
				for range r.Intn(4) {
					c = imageIn(h, r.Intn(len(h.Walls)), c)
				}
				if c == from {
					continue
				}
				to = reducedTurn(c.X-from.X, c.Y-from.Y)
			}
			order := r.Intn(5)
			want, isThere := followSlowly(h, from, to, order)
			l, e := image.Follow(h, from, to, order)
			if isThere && (!slices.Equal(l, want) || e != api.OK) || !isThere && (len(l) > 0 || e != api.ErrBreak) {
				t.Fatalf("%s from %v in %v, %d: %v, %d, want %v, %v", name, from, to, order, l, e, want, isThere)
			}
			if isThere {
				right++
			} else {
				broken++
			}
		}
	}
	if right < 500 || broken < 200 {
		t.Errorf("%d rays, %d broken", right, broken)
	}
}

func testBeams(t *testing.T, h api.Hall, from api.HallCorner, order int, want []api.ImageBeam) {
	t.Helper()
	l, e := image.Beams(h, from, order)
	if e != api.OK || len(l) != len(want) {
		t.Fatalf("%d beams, %d, want %d", len(l), e, len(want))
	}
	for i, b := range l {
		if !equalBeams(b, want[i]) {
			t.Fatalf("%d: %v, want %v", i, b, want[i])
		}
	}
	n, e := image.CheckBeams(h, from, order, l)
	if n != len(l) || e != api.OK {
		t.Fatalf("CheckBeams: %d, %d, want %d", n, e, len(l))
	}
}

// P2.5: the beams of the chapter's examples.
func TestBeamsOfBox(t *testing.T) {
	from := corner(500, 1000)
	l, e := image.Beams(box(), from, 1)
	if e != api.OK || len(l) != 16 {
		t.Fatalf("%v, %d", l, e)
	}
	for i, want := range []api.ImageBeam{
		{At: from, From: turn(1, 2), To: turn(-1, 2), Next: 2},
		{At: from, From: turn(-1, 2), To: turn(-1, -2), Next: 3},
		{At: from, From: turn(-1, -2), To: turn(1, -2), Next: 0},
		{At: from, From: turn(1, -2), To: turn(1, 2), Next: 1},
		{Walls: list(2), At: corner(500, 3000), From: turn(-1, -2), To: turn(-1, -6), Next: 3},
		{Walls: list(2), At: corner(500, 3000), From: turn(-1, -6), To: turn(1, -6), Next: 0},
		{Walls: list(2), At: corner(500, 3000), From: turn(1, -6), To: turn(1, -2), Next: 1},
		{Walls: list(3), At: corner(-500, 1000), From: turn(1, -2), To: turn(3, -2), Next: 0},
		{Walls: list(3), At: corner(-500, 1000), From: turn(3, -2), To: turn(3, 2), Next: 1},
		{Walls: list(3), At: corner(-500, 1000), From: turn(3, 2), To: turn(1, 2), Next: 2},
	} {
		if !equalBeams(l[i], want) {
			t.Errorf("%d: %v, want %v", i, l[i], want)
		}
	}
}

// P2.5: the first beam begins at the turn (1, 0), and an image may lie in a corner.
func TestBeamsOfAngle(t *testing.T) {
	from := corner(10, 20)
	l, e := image.Beams(angle(), from, 1)
	if e != api.OK || len(l) < 7 {
		t.Fatalf("%v, %d", l, e)
	}
	for i, want := range []api.ImageBeam{
		{At: from, From: turn(1, 0), To: turn(1, 2), Next: 3},
		{At: from, From: turn(1, 2), To: turn(-1, 2), Next: 4},
		{At: from, From: turn(-1, 2), To: turn(-1, -2), Next: 5},
		{At: from, From: turn(-1, -2), To: turn(1, -1), Next: 0},
		{At: from, From: turn(1, -1), To: turn(1, 0), Next: 1},
		{Walls: list(3), At: corner(30, 20), From: turn(-1, 2), To: turn(-3, 2), Next: 4},
		{Walls: list(3), At: corner(30, 20), From: turn(-3, 2), To: turn(-1, 0), Next: 5},
	} {
		if !equalBeams(l[i], want) {
			t.Errorf("%d: %v, want %v", i, l[i], want)
		}
	}
}

// P2.5: the beams of many sources against slow ones: which they are, and in which order.
func TestBeamsAgainstSlow(t *testing.T) {
	r := rand.New(rand.NewSource(6))
	for name, h := range plans() {
		for order := range 5 {
			for range 6 - order {
				from := somewhere(r, h)
				t.Run(name, func(t *testing.T) { testBeams(t, h, from, order, beamsSlowly(h, from, order)) })
			}
		}
	}
	testBeams(t, angle(), corner(10, 20), 4, beamsSlowly(angle(), corner(10, 20), 4))
	level := plans()["octagon"] // with corners straight to the right and to the left
	testBeams(t, level, corner(12, 7), 3, beamsSlowly(level, corner(12, 7), 3))
	testBeams(t, level, corner(12, 17), 3, beamsSlowly(level, corner(12, 17), 3))
	testBeams(t, roofed(), corner(5, 5), 2, beamsSlowly(roofed(), corner(5, 5), 2))
	testBeams(t, crowded(), corner(5, 5), 2, beamsSlowly(crowded(), corner(5, 5), 2))
}

// P2.5: CheckBeams refuses all others.
func TestCheckBeams(t *testing.T) {
	from := corner(500, 1000)
	for _, c := range []struct {
		name   string
		change func(l []api.ImageBeam) []api.ImageBeam
	}{
		{"none", func(l []api.ImageBeam) []api.ImageBeam { return nil }},
		{"one less", func(l []api.ImageBeam) []api.ImageBeam { return l[:15] }},
		{"the first one less", func(l []api.ImageBeam) []api.ImageBeam { return l[1:] }},
		{"one more", func(l []api.ImageBeam) []api.ImageBeam { return append(l, l[15]) }},
		{"those without walls alone", func(l []api.ImageBeam) []api.ImageBeam { return l[:4] }},
		{"two exchanged", func(l []api.ImageBeam) []api.ImageBeam { l[3], l[2] = l[2], l[3]; return l }},
		{"beginning later", func(l []api.ImageBeam) []api.ImageBeam { return append(append(l[1:4:4], l[0]), l[4:]...) }},
		{"another Next", func(l []api.ImageBeam) []api.ImageBeam { l[5].Next = 1; return l }},
		{"another At", func(l []api.ImageBeam) []api.ImageBeam { l[5].At.X++; return l }},
		{"another From", func(l []api.ImageBeam) []api.ImageBeam { l[5].From = turn(-2, -12); return l }},
		{"another To", func(l []api.ImageBeam) []api.ImageBeam { l[15].To = turn(1, 3); return l }},
		{"other walls", func(l []api.ImageBeam) []api.ImageBeam { l[5].Walls = list(1); return l }},
		{"fewer walls", func(l []api.ImageBeam) []api.ImageBeam { l[5].Walls = nil; return l }},
		{"more walls", func(l []api.ImageBeam) []api.ImageBeam { l[0].Walls = list(0); return l }},
	} {
		l, _ := image.Beams(box(), from, 1)
		if n, e := image.CheckBeams(box(), from, 1, c.change(l)); n != 0 || e != api.ErrProof {
			t.Errorf("%s: %d, %d", c.name, n, e)
		}
	}
	l, _ := image.Beams(box(), from, 1)
	l[0].Walls = []int{}
	l[1].Walls = nil
	if n, e := image.CheckBeams(box(), from, 1, l); n != 16 || e != api.OK {
		t.Errorf("empty walls: %d, %d", n, e)
	}
	for _, order := range list(0, 2) {
		if n, e := image.CheckBeams(box(), from, order, l); n != 0 || e != api.ErrProof {
			t.Errorf("of the order 1, not %d: %d, %d", order, n, e)
		}
	}
	if n, e := image.CheckBeams(box(), corner(500, 1001), 1, l); n != 0 || e != api.ErrProof {
		t.Errorf("of another source: %d, %d", n, e)
	}
}

func testReached(t *testing.T, name string, h api.Hall, x api.ImageAsk, want [][]int) {
	t.Helper()
	if l, e := image.Reached(h, x); !slices.EqualFunc(l, want, slices.Equal) || e != api.OK {
		t.Errorf("%s: %v, %d, want %v", name, l, e, want)
	}
}

// P2.5: the walls of the beams that reach a seat.
func TestReached(t *testing.T) {
	x := ask(place(500, 1000, 100), place(510, 1200, 300), 1)
	testReached(t, "the direct way and each wall", box(), x, [][]int{{}, {2}, {3}, {0}, {1}})
	testReached(t, "order 0", box(), ask(x.From, x.To, 0), [][]int{{}})
	many := sheltered()
	many.Canopies[0].From = corner(1, 1)
	many.Canopies[0].To = corner(999, 1999)
	testReached(t, "a canopy in the way", many, ask(x.From, place(510, 1200, 500), 1), [][]int{{}, {2}, {3}, {0}, {1}})
	testReached(t, "straight above", box(), ask(x.From, place(500, 1000, 300), 0), nil)
	testReached(t, "straight above, by walls", box(), ask(x.From, place(500, 1000, 300), 1), [][]int{{2}, {3}, {0}, {1}})
	testReached(t, "in a turn", box(), ask(x.From, place(600, 1200, 100), 0), nil)
	testReached(t, "beside the turn", box(), ask(x.From, place(601, 1200, 100), 0), [][]int{{}})
	testReached(t, "behind the tip", tipped(), ask(place(10, 15, 5), place(35, 14, 5), 1), [][]int{{0}})
	testReached(t, "below the tip", tipped(), ask(place(20, 10, 5), place(35, 9, 5), 0), [][]int{{}})
	testReached(t, "at the image", angle(), ask(place(15, 10, 5), place(25, 10, 5), 0), [][]int{{}})
	if l, e := image.Reached(angle(), ask(place(15, 10, 5), place(25, 10, 5), 1)); e != api.OK || slices.ContainsFunc(l, func(w []int) bool { return slices.Equal(w, list(3)) }) {
		t.Errorf("at the image, by the wall: %v, %d", l, e)
	}
}

// P2.5: Reached has the walls of the beams that reach the seat, in their order, each list once; curtains, canopies and the number of settings do not matter.
func TestReachedAgainstSlow(t *testing.T) {
	r := rand.New(rand.NewSource(7))
	halls := plans()
	halls["roofed"], halls["crowded"] = roofed(), crowded()
	for name, h := range halls {
		for range 12 {
			from, to := somewhere(r, h), somewhere(r, h)
			order := r.Intn(4)
			x := ask(place(from.X, from.Y, 1), place(to.X, to.Y, 2+r.Intn(8)), order)
			if r.Intn(6) == 0 {
				to = from
				x.To.X, x.To.Y = to.X, to.Y
			}
			var want [][]int
			for _, b := range beamsSlowly(h, from, order) {
				if reachesSlowly(h, b, to) {
					want = append(want, b.Walls)
				}
			}
			testReached(t, name, h, x, want)
			for i, w := range want {
				if slices.ContainsFunc(want[:i], func(v []int) bool { return slices.Equal(v, w) }) {
					t.Errorf("%s: %v twice", name, w)
				}
			}
		}
	}
}

// P2.10: if no way from a beam's image runs along its turns, images and beams tell the same paths.
func TestImagesAreBeams(t *testing.T) {
	r := rand.New(rand.NewSource(8))
	count := 0
	for name, h := range plans() {
		for range 8 {
			from, to := somewhere(r, h), somewhere(r, h)
			if from == to {
				continue
			}
			x := ask(place(from.X, from.Y, 5), place(to.X, to.Y, 5), 2+r.Intn(2))
			beams, _ := image.Beams(h, from, x.Order)
			if slices.ContainsFunc(beams, func(b api.ImageBeam) bool { return runsAlong(b, to) }) {
				continue
			}
			want := wallsOnly(h, x)
			l, e := image.Reached(h, x)
			slices.SortFunc(l, slices.Compare)
			slices.SortFunc(want, slices.Compare)
			if !slices.EqualFunc(l, want, slices.Equal) || e != api.OK {
				t.Errorf("%s, %v: %v, %d, want %v", name, x, l, e, want)
			}
			count += len(l)
		}
	}
	if count < 300 {
		t.Errorf("too few paths: %d", count)
	}
}

// backTurn is the direction in which a ray of a beam left the source.
func backTurn(h api.Hall, b api.ImageBeam, t api.ImageTurn) api.ImageTurn {
	for i := len(b.Walls) - 1; i >= 0; i-- {
		t = reflectedTurn(h, b.Walls[i], t)
	}
	return t
}

// P2.11: any ray strictly within a beam follows its walls, and Next behind them.
func TestRaysWithinBeams(t *testing.T) {
	r := rand.New(rand.NewSource(9))
	for name, h := range plans() {
		from := somewhere(r, h)
		l, e := image.Beams(h, from, 3)
		if e != api.OK {
			t.Fatalf("%s: %d", name, e)
		}
		for _, b := range l {
			for range 3 {
				// turns of the great plan are too great to be weighed
				m, n := 1+r.Intn(4), 1+r.Intn(4)
				inner := reducedTurn(m*b.From.X+n*b.To.X, m*b.From.Y+n*b.To.Y)
				if max(inner.X, -inner.X, inner.Y, -inner.Y) > 100000 {
					continue
				}
				if is, e := image.Between(b.From, b.To, inner); !is || e != api.OK {
					t.Fatalf("%s: %v is not within %v, %d", name, inner, b, e)
				}
				walls, e := image.Follow(h, from, backTurn(h, b, inner), len(b.Walls)+1)
				if want := append(slices.Clone(b.Walls), b.Next); !slices.Equal(walls, want) || e != api.OK {
					t.Fatalf("%s: %v in %v: %v, %d", name, inner, b, walls, e)
				}
			}
		}
	}
}

// P2.11: the beams without walls add up to the full turn, those behind a beam to its sector; neighbours meet different walls.
func TestBeamsAddUp(t *testing.T) {
	r := rand.New(rand.NewSource(10))
	for name, h := range plans() {
		l, _ := image.Beams(h, somewhere(r, h), 3)
		open := slices.IndexFunc(l, func(b api.ImageBeam) bool { return len(b.Walls) > 0 })
		rounds := 0
		for i, b := range l[:open] {
			if !isUpper(b.From) && isUpper(b.To) {
				rounds++
			}
			if next := l[(i+1)%open]; b.To != next.From || b.Next == next.Next || crossOf(b.From, b.To) <= 0 {
				t.Errorf("%s, %d: %v, then %v", name, i, b, next)
			}
		}
		if rounds != 1 {
			t.Errorf("%s: %d rounds", name, rounds)
		}
		behind := l[open:]
		for i, b := range l {
			if len(b.Walls) == 3 {
				break
			}
			here := reflectedTurn(h, b.Next, b.To)
			end := reflectedTurn(h, b.Next, b.From)
			for here != end {
				next := behind[0]
				if !slices.Equal(next.Walls, append(slices.Clone(b.Walls), b.Next)) || next.From != here || crossOf(here, next.To) <= 0 {
					t.Fatalf("%s: behind %d, %v: %v", name, i, b, next)
				}
				here, behind = next.To, behind[1:]
			}
		}
		if len(behind) > 0 {
			t.Errorf("%s: %d beams behind none", name, len(behind))
		}
	}
}
