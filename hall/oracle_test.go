package hall_test

import (
	"math/big"
	"math/rand"
	"slices"
	"testing"

	"shoebox/api"
	"shoebox/hall"
)

// The answers of the package are held against slow ones, in fractions without a bound, that follow the chapter's definitions directly.

// spot is a point in fractions.
type spot struct{ x, y, z *big.Rat }

func fraction(a, b int) *big.Rat      { return big.NewRat(int64(a), int64(b)) }
func number(a int) *big.Rat           { return fraction(a, 1) }
func times(a, b *big.Rat) *big.Rat    { return new(big.Rat).Mul(a, b) }
func plus(a, b *big.Rat) *big.Rat     { return new(big.Rat).Add(a, b) }
func less(a, b *big.Rat) *big.Rat     { return new(big.Rat).Sub(a, b) }
func quotient(a, b *big.Rat) *big.Rat { return new(big.Rat).Quo(a, b) }
func along(a, b, t *big.Rat) *big.Rat { return plus(a, times(t, less(b, a))) }

func spotOf(p api.HallPoint) spot {
	return spot{fraction(p.X, p.Den), fraction(p.Y, p.Den), fraction(p.Z, p.Den)}
}

func between(a, b spot, t *big.Rat) spot {
	return spot{along(a.x, b.x, t), along(a.y, b.y, t), along(a.z, b.z, t)}
}

// side is on which side of the line from a to b a spot is, seen from above.
func side(a, b api.HallCorner, s spot) int {
	dx, dy := number(b.X-a.X), number(b.Y-a.Y)
	return less(times(dx, less(s.y, number(a.Y))), times(dy, less(s.x, number(a.X)))).Sign()
}

func isIn(v *big.Rat, a, b int) bool {
	return v.Cmp(number(min(a, b))) >= 0 && v.Cmp(number(max(a, b))) <= 0
}

// isInPlan counts how often the plan winds around a spot.
func isInPlan(h api.Hall, s spot) bool {
	winds := 0
	for i, a := range h.Corners {
		b := h.Corners[(i+1)%len(h.Corners)]
		d := side(a, b, s)
		if d == 0 && isIn(s.x, a.X, b.X) && isIn(s.y, a.Y, b.Y) {
			return false
		}
		above, next := number(a.Y).Cmp(s.y) > 0, number(b.Y).Cmp(s.y) > 0
		if !above && next && d > 0 {
			winds++
		}
		if above && !next && d < 0 {
			winds--
		}
	}
	return winds != 0
}

func isInHall(h api.Hall, s spot) bool {
	return s.z.Sign() > 0 && s.z.Cmp(number(h.Height)) < 0 && isInPlan(h, s)
}

func isOnCanopy(c api.HallCanopy, z int, s spot) bool {
	return s.z.Cmp(number(z)) == 0 && isIn(s.x, c.From.X, c.To.X) && isIn(s.y, c.From.Y, c.To.Y)
}

// shares is where along the way something may change: where it meets the lines of walls, heights, and edges of canopies, and points between all of these.
func shares(h api.Hall, a, b spot) []*big.Rat {
	marks := []*big.Rat{number(0), number(1)}
	add := func(from, to *big.Rat) { // where a value that goes evenly from one to another is 0
		d := less(from, to)
		if d.Sign() == 0 {
			return
		}
		if t := quotient(from, d); t.Sign() > 0 && t.Cmp(number(1)) < 0 {
			marks = append(marks, t)
		}
	}
	for i, c := range h.Corners {
		n := h.Corners[(i+1)%len(h.Corners)]
		dx, dy := number(n.X-c.X), number(n.Y-c.Y)
		value := func(s spot) *big.Rat {
			return less(times(dx, less(s.y, number(c.Y))), times(dy, less(s.x, number(c.X))))
		}
		add(value(a), value(b))
		add(less(a.x, number(c.X)), less(b.x, number(c.X)))
		add(less(a.y, number(c.Y)), less(b.y, number(c.Y)))
	}
	for _, c := range h.Canopies {
		for _, x := range []int{c.From.X, c.To.X} {
			add(less(a.x, number(x)), less(b.x, number(x)))
		}
		for _, y := range []int{c.From.Y, c.To.Y} {
			add(less(a.y, number(y)), less(b.y, number(y)))
		}
		for _, z := range c.Heights {
			add(less(a.z, number(z)), less(b.z, number(z)))
		}
	}
	add(a.z, b.z)
	add(less(a.z, number(h.Height)), less(b.z, number(h.Height)))
	slices.SortFunc(marks, func(a, b *big.Rat) int { return a.Cmp(b) })
	var l []*big.Rat
	for i, m := range marks[1:] {
		l = append(l, quotient(plus(marks[i], m), number(2)))
		if m.Cmp(number(1)) < 0 {
			l = append(l, m)
		}
	}
	return l
}

func isFreeSlowly(h api.Hall, s api.HallSetting, w api.HallWay) bool {
	a, b := spotOf(w.From), spotOf(w.To)
	for _, t := range shares(h, a, b) {
		p := between(a, b, t)
		if !isInHall(h, p) {
			return false
		}
		for i, c := range h.Canopies {
			if isOnCanopy(c, c.Heights[s.Heights[i]], p) {
				return false
			}
		}
	}
	return true
}

// crossSlowly is where a way meets a surface well; false if it does not.
func crossSlowly(h api.Hall, s api.HallSetting, x api.HallCross) (spot, bool) {
	a, b := spotOf(api.HallPoint{X: x.From.X, Y: x.From.Y, Z: x.From.Z, Den: 1}), spotOf(x.To)
	p, _ := hall.PlaneOf(h, s, x.Surface)
	value := func(s spot) *big.Rat {
		v := map[int]*big.Rat{api.PlaneX: s.x, api.PlaneY: s.y, api.PlaneZ: s.z, api.PlaneSum: plus(s.x, s.y), api.PlaneLess: less(s.x, s.y)}[p.Kind]
		return less(v, number(p.At))
	}
	d := less(value(a), value(b))
	if d.Sign() == 0 {
		return spot{}, false
	}
	t := quotient(value(a), d)
	if t.Sign() <= 0 || t.Cmp(number(1)) >= 0 {
		return spot{}, false
	}
	m := between(a, b, t)
	n := len(h.Walls)
	switch {
	case x.Surface < n:
		c, e := h.Corners[x.Surface], h.Corners[(x.Surface+1)%n]
		isEnd := func(c api.HallCorner) bool { return m.x.Cmp(number(c.X)) == 0 && m.y.Cmp(number(c.Y)) == 0 }
		isHigh := m.z.Sign() > 0 && m.z.Cmp(number(h.Height)) < 0
		return m, isHigh && isIn(m.x, c.X, e.X) && isIn(m.y, c.Y, e.Y) && !isEnd(c) && !isEnd(e)
	case x.Surface < n+2:
		return m, isInPlan(h, m)
	}
	c := h.Canopies[x.Surface-n-2]
	isEdge := m.x.Cmp(number(c.From.X)) == 0 || m.x.Cmp(number(c.To.X)) == 0 || m.y.Cmp(number(c.From.Y)) == 0 || m.y.Cmp(number(c.To.Y)) == 0
	return m, isIn(m.x, c.From.X, c.To.X) && isIn(m.y, c.From.Y, c.To.Y) && !isEdge
}

// somePoint is a point in or about the wedge, often on something.
func somePoint(r *rand.Rand) api.HallPoint {
	den := 1 + r.Intn(3)
	p := over((r.Intn(21)-2)*den, (r.Intn(31)-2)*den, (r.Intn(11)-1)*den, den)
	if r.Intn(3) == 0 {
		c := wedge().Corners[r.Intn(8)]
		p.X, p.Y = c.X*den, c.Y*den
	}
	if den > 1 {
		p.X, p.Y, p.Z = p.X+r.Intn(den), p.Y+r.Intn(den), p.Z+r.Intn(den)
	}
	return reduced(p)
}

func reduced(p api.HallPoint) api.HallPoint {
	for d := 2; d <= p.Den; {
		if p.X%d == 0 && p.Y%d == 0 && p.Z%d == 0 && p.Den%d == 0 {
			p = over(p.X/d, p.Y/d, p.Z/d, p.Den/d)
		} else {
			d++
		}
	}
	return p
}

// P1.6: IsInside of many points.
func TestInsideAgainstSlow(t *testing.T) {
	r := rand.New(rand.NewSource(1))
	for range 20000 {
		p := somePoint(r)
		in, e := hall.IsInside(wedge(), p)
		if want := isInHall(wedge(), spotOf(p)); in != want || e != api.OK {
			t.Fatalf("%v: %v, %d, want %v", p, in, e, want)
		}
	}
}

// P1.6, P1.9: IsFree of many ways, there and back, and of parts of free ones.
func TestFreeAgainstSlow(t *testing.T) {
	r := rand.New(rand.NewSource(2))
	h := wedge()
	free := 0
	for range 6000 {
		s, _ := hall.SettingAt(h, r.Intn(48))
		w := wayOf(somePoint(r), somePoint(r))
		if w.From == w.To {
			continue
		}
		got, e := hall.IsFree(h, s, w)
		if want := isFreeSlowly(h, s, w); got != want || e != api.OK {
			t.Fatalf("%v in %v: %v, %d, want %v", w, s, got, e, want)
		}
		if back, _ := hall.IsFree(h, s, wayOf(w.To, w.From)); back != got {
			t.Fatalf("%v in %v: back %v", w, s, back)
		}
		if got {
			free++
			testParts(t, h, s, w)
		}
	}
	if free < 300 {
		t.Errorf("only %d free ways", free)
	}
}

// testParts looks at the thirds of a free way.
func testParts(t *testing.T, h api.Hall, s api.HallSetting, w api.HallWay) {
	t.Helper()
	a, b := w.From, w.To
	part := func(n int) api.HallPoint {
		x, y := (3-n)*b.Den, n*a.Den
		return reduced(over(a.X*x+b.X*y, a.Y*x+b.Y*y, a.Z*x+b.Z*y, 3*a.Den*b.Den))
	}
	for n := range 3 {
		if free, e := hall.IsFree(h, s, wayOf(part(n), part(n+1))); !free || e != api.OK {
			t.Fatalf("part %d of %v in %v: %v, %d", n, w, s, free, e)
		}
	}
}

// P1.6: IsFree in the greatest numbers that points may have.
func TestFreeOfGreatNumbers(t *testing.T) {
	r := rand.New(rand.NewSource(3))
	h := withPlan(5000, api.HallCorner{X: -5000, Y: -5000}, api.HallCorner{X: 0, Y: -5000}, api.HallCorner{X: 5000, Y: 0},
		api.HallCorner{X: 0, Y: 5000}, api.HallCorner{X: -4999, Y: 1}, api.HallCorner{X: -5000, Y: 1})
	h.Canopies = []api.HallCanopy{{Name: "k", Material: "w", From: api.HallCorner{X: -2499, Y: -2500}, To: api.HallCorner{X: 2499, Y: 2400}, Heights: []int{2, 4999}}}
	great := func() api.HallPoint {
		den := api.MaxHallDen - r.Intn(9)
		n := func() int {
			switch r.Intn(6) {
			case 0:
				return api.MaxPlace * den
			case 1:
				return -api.MaxPlace * den
			case 2:
				return api.MaxPlace*den - 1
			}
			return r.Intn(2*api.MaxPlace*den) - api.MaxPlace*den
		}
		p := over(n(), n(), r.Intn(api.MaxPlace*den+1), den)
		for g := gcd(gcd(p.X, p.Y), gcd(p.Z, p.Den)); g > 1; g = 1 {
			p = over(p.X/g, p.Y/g, p.Z/g, p.Den/g)
		}
		return p
	}
	free := 0
	for i := range 5000 {
		s := api.HallSetting{Heights: []int{i % 2}}
		w := wayOf(great(), great())
		got, e := hall.IsFree(h, s, w)
		if want := isFreeSlowly(h, s, w); got != want || e != api.OK {
			t.Fatalf("%v in %v: %v, %d, want %v", w, s, got, e, want)
		}
		if got {
			free++
		}
	}
	if free < 30 {
		t.Errorf("only %d free ways", free)
	}
}

func gcd(a, b int) int {
	if b == 0 {
		return max(a, -a)
	}
	return gcd(b, a%b)
}

// P1.6, P1.10: CrossAt of many ways; the point lies in the plane, strictly between both ends.
func TestCrossAgainstSlow(t *testing.T) {
	r := rand.New(rand.NewSource(4))
	h := wedge()
	met := 0
	for range 40000 {
		s, _ := hall.SettingAt(h, r.Intn(48))
		x := api.HallCross{Surface: r.Intn(12), From: place(r.Intn(40)-12, r.Intn(50)-12, r.Intn(20)-6), To: somePoint(r)}
		p, e := hall.CrossAt(h, s, x)
		want, ok := crossSlowly(h, s, x)
		if !ok {
			if p != (api.HallPoint{}) || e != api.ErrNone {
				t.Fatalf("%v in %v: %v, %d", x, s, p, e)
			}
			continue
		}
		met++
		if p.Den < 1 || p != reduced(p) || e != api.OK {
			t.Fatalf("%v in %v: %v, %d", x, s, p, e)
		}
		got := spotOf(p)
		if got.x.Cmp(want.x) != 0 || got.y.Cmp(want.y) != 0 || got.z.Cmp(want.z) != 0 {
			t.Fatalf("%v in %v: %v, want %v", x, s, p, want)
		}
		if isEnd := p == reduced(x.To) || p == at(x.From.X, x.From.Y, x.From.Z); isEnd {
			t.Fatalf("%v in %v: %v is an end", x, s, p)
		}
	}
	if met < 1000 {
		t.Errorf("only %d meetings", met)
	}
}

// P1.6: CrossAt from images as far away as can be.
func TestCrossOfGreatNumbers(t *testing.T) {
	r := rand.New(rand.NewSource(5))
	h := withPlan(5000, api.HallCorner{X: -5000, Y: -5000}, api.HallCorner{X: 5000, Y: -5000}, api.HallCorner{X: -5000, Y: 5000})
	found, tooLarge := 0, 0
	for range 20000 {
		den := 1
		if r.Intn(2) == 0 {
			den = api.MaxHallDen - r.Intn(9)
		}
		n := func(span int) int { return r.Intn(2*span+1) - span }
		to := over(n(5000*den), n(5000*den), n(5000*den), den)
		if g := gcd(gcd(to.X, to.Y), gcd(to.Z, to.Den)); g > 1 {
			to = over(to.X/g, to.Y/g, to.Z/g, to.Den/g)
		}
		x := api.HallCross{Surface: r.Intn(5), From: place(n(45000), n(45000), n(45000)), To: to}
		p, e := hall.CrossAt(h, api.HallSetting{}, x)
		want, ok := crossSlowly(h, api.HallSetting{}, x)
		switch {
		case !ok:
			wantErrno(t, "not met", e, api.ErrNone)
		case e == api.ErrLarge:
			tooLarge++
			den := lcm(lcm(want.x.Denom().Int64(), want.y.Denom().Int64()), want.z.Denom().Int64())
			if den <= api.MaxHallDen || p != (api.HallPoint{}) {
				t.Fatalf("%v: too large, with %d and %v", x, den, p)
			}
		default:
			found++
			got := spotOf(p)
			if got.x.Cmp(want.x) != 0 || got.y.Cmp(want.y) != 0 || got.z.Cmp(want.z) != 0 || p.Den > api.MaxHallDen {
				t.Fatalf("%v: %v, want %v", x, p, want)
			}
		}
	}
	if found < 100 || tooLarge < 100 {
		t.Errorf("only %d found, %d too large", found, tooLarge)
	}
}

func lcm(a, b int64) int64 { return a / int64(gcd(int(a), int(b))) * b }

// P1.5, P1.8: images of images are the places, distances are kept, and just the places of a plane are their own images.
func TestMirrorLaws(t *testing.T) {
	r := rand.New(rand.NewSource(6))
	somewhere := func() api.Place { return place(r.Intn(61)-30, r.Intn(61)-30, r.Intn(61)-30) }
	square := func(a, b api.Place) int {
		return (a.X-b.X)*(a.X-b.X) + (a.Y-b.Y)*(a.Y-b.Y) + (a.Z-b.Z)*(a.Z-b.Z)
	}
	for range 5000 {
		p := plane(r.Intn(5), r.Intn(41)-20)
		a, b := somewhere(), somewhere()
		i, e := hall.MirrorIn(p, a)
		j, f := hall.MirrorIn(p, b)
		back, g := hall.MirrorIn(p, i)
		if e != api.OK || f != api.OK || g != api.OK || back != a || square(a, b) != square(i, j) {
			t.Fatalf("%v, %v in %v: %v, %v, back %v", a, b, p, i, j, back)
		}
		value := []int{a.X, a.Y, a.Z, a.X + a.Y, a.X - a.Y}[p.Kind]
		if (i == a) != (value == p.At) {
			t.Fatalf("%v in %v: %v", a, p, i)
		}
	}
}

// halves is all points of a line between two corners that have halves as numbers, in halves.
func halves(a, b api.HallCorner) map[api.HallCorner]bool {
	dx, dy := b.X-a.X, b.Y-a.Y
	n := 2 * max(dx, -dx, dy, -dy)
	l := map[api.HallCorner]bool{}
	for i := range n + 1 {
		l[api.HallCorner{X: 2*a.X + 2*dx*i/n, Y: 2*a.Y + 2*dy*i/n}] = true
	}
	return l
}

// isSimpleSlowly counts the points that walls have in common: two of them that have one have one in halves.
func isSimpleSlowly(corners []api.HallCorner) bool {
	n := len(corners)
	for i := range n {
		for j := range i {
			allowed := 0
			if j+1 == i || j == 0 && i == n-1 {
				allowed = 1
			}
			common := 0
			other := halves(corners[j], corners[(j+1)%n])
			for p := range halves(corners[i], corners[(i+1)%n]) {
				if other[p] {
					common++
				}
			}
			if common != allowed {
				return false
			}
		}
	}
	return true
}

// somePlan walks in straight and diagonal lines until it comes back.
func somePlan(r *rand.Rand) []api.HallCorner {
	for {
		l := []api.HallCorner{{X: 3, Y: 3}}
		for range 2 + r.Intn(7) {
			c := l[len(l)-1]
			dx, dy, n := r.Intn(3)-1, r.Intn(3)-1, 1+r.Intn(3)
			if dx != 0 || dy != 0 {
				l = append(l, api.HallCorner{X: c.X + n*dx, Y: c.Y + n*dy})
			}
		}
		a, b := l[0], l[len(l)-1]
		dx, dy := a.X-b.X, a.Y-b.Y
		if len(l) > 2 && a != b && (dx == 0 || dy == 0 || dx == dy || dx == -dy) {
			return l
		}
	}
}

// P1.1: the plan is simple and counter-clockwise, or not, for many plans; P1.3: by its area.
func TestPlansAgainstSlow(t *testing.T) {
	r := rand.New(rand.NewSource(7))
	count := map[api.Errno]int{}
	for range 6000 {
		l := somePlan(r)
		want := api.OK
		twice := 0
		for i, c := range l {
			n := l[(i+1)%len(l)]
			twice += c.X*n.Y - n.X*c.Y
		}
		if !isSimpleSlowly(l) {
			want = api.ErrBreak
		} else if twice < 0 {
			want = api.ErrOrder
		}
		h := withPlan(4, l...)
		m, e := hall.CheckHall(h)
		if m != (api.HallMark{}) || e != want {
			t.Fatalf("%v: %v, %d, want %d", l, m, e, want)
		}
		count[e]++
		if area, e := hall.TwiceArea(h); e == api.OK && area != twice {
			t.Fatalf("%v: twice the area %d, want %d", l, area, twice)
		}
		if e == api.OK {
			testSomeCanopies(t, r, h)
		}
	}
	if count[api.OK] < 150 || count[api.ErrOrder] < 150 || count[api.ErrBreak] < 150 {
		t.Errorf("few of a kind: %v", count)
	}
}

// testSomeCanopies holds all points of rectangles that have halves as numbers against the plan.
func testSomeCanopies(t *testing.T, r *rand.Rand, h api.Hall) {
	t.Helper()
	for range 5 {
		from := api.HallCorner{X: r.Intn(8), Y: r.Intn(8)}
		to := api.HallCorner{X: from.X + 1 + r.Intn(3), Y: from.Y + 1 + r.Intn(3)}
		want := api.OK
		for x := 2 * from.X; x <= 2*to.X; x++ {
			for y := 2 * from.Y; y <= 2*to.Y; y++ {
				if !isInPlan(h, spot{fraction(x, 2), fraction(y, 2), nil}) {
					want = api.ErrBreak
				}
			}
		}
		if r.Intn(2) == 0 {
			from.X, to.X = to.X, from.X
		}
		h.Canopies = []api.HallCanopy{{Name: "k", Material: "w", From: from, To: to, Heights: []int{1}}}
		if _, e := hall.CheckHall(h); e != want {
			t.Fatalf("%v over %v: %d, want %d", h.Canopies[0], h.Corners, e, want)
		}
	}
}
