package image_test

import (
	"math"
	"math/big"
	"math/rand"
	"slices"
	"testing"

	"shoebox/api"
	"shoebox/hall"
	"shoebox/image"
)

func points(l ...api.HallPoint) []api.HallPoint { return l }

func cube() api.Hall { return plan(0, 0, 20, 0, 20, 20, 0, 20) }

// shaft is a hall in which the path by the floor and those by two walls have one square.
func shaft() api.Hall {
	h := plan(0, 0, 20, 0, 20, 50, 0, 50)
	h.Height = 60
	return h
}

// P2.2: paths that there are.
func TestPathOf(t *testing.T) {
	x := example(0)
	none := api.HallSetting{}
	for _, c := range []struct {
		name     string
		h        api.Hall
		s        api.HallSetting
		x        api.ImageAsk
		surfaces []int
		points   []api.HallPoint
		square   int
	}{
		{"direct", box(), none, x, nil, nil, 20000},
		{"b", box(), none, x, list(1), points(at(1000, 750, 100)), 1980000},
		{"b behind its curtain", box(), api.HallSetting{Drawn: list(1)}, x, list(1), points(at(1000, 750, 100)), 1980000},
		{"floor", box(), none, x, list(4), points(at(300, 775, 0)), 50000},
		{"ceiling", box(), none, x, list(5), points(at(300, 745, 600)), 1010000},
		{"b and d", box(), none, x, list(1, 3), points(at(1000, 735, 115), at(0, 785, 65)), 4020000},
		{"more than the order", box(), none, x, list(1, 3, 1, 3), points(over(2000, 1435, 265, 2), over(0, 1485, 215, 2), over(2000, 1535, 165, 2), over(0, 1585, 115, 2)), 16020000},
		{"straight up", box(), none, ask(place(1, 1, 1), place(1, 1, 2), 0), nil, nil, 1},
		{"straight up by floor and ceiling", box(), none, ask(place(1, 1, 1), place(1, 1, 2), 0), list(4, 5), points(at(1, 1, 0), at(1, 1, 600)), 1199 * 1199},
		{"a diagonal wall", plans()["octagon"], none, ask(place(12, 12, 5), place(12, 10, 5), 0), list(1), points(over(639, 95, 160, 32)), 514},
		{"below the canopy", sheltered(), heights(0), ask(place(400, 600, 100), place(600, 800, 100), 0), list(6), points(at(500, 700, 400)), 440000},
		{"below the canopy at 500", sheltered(), heights(1), ask(place(400, 600, 100), place(600, 800, 100), 0), list(6), points(at(500, 700, 500)), 720000},
		{"above the canopy", sheltered(), heights(0), ask(place(400, 600, 550), place(600, 800, 550), 0), list(6), points(at(500, 700, 400)), 170000},
		{"near the canopy's edge", sheltered(), heights(0), ask(place(102, 700, 100), place(300, 700, 100), 0), list(6), points(at(201, 700, 400)), 198*198 + 360000},
		{"canopy and floor", sheltered(), heights(0), ask(place(500, 700, 100), place(500, 700, 200), 0), list(6, 4), points(at(500, 700, 400), at(500, 700, 0)), 810000},
		{"around the tip", tipped(), none, ask(place(10, 15, 5), place(35, 14, 5), 0), list(0), points(over(665, 0, 145, 29)), 1466},
		{"near an inward corner", angle(), none, ask(place(10, 16, 5), place(10, 26, 5), 0), list(3), points(at(20, 21, 5)), 500},
	} {
		want := api.ImagePath{Surfaces: c.surfaces, Points: c.points, Square: c.square}
		if p, e := image.PathOf(c.h, c.s, c.x, c.surfaces); !equal(p, want) || e != api.OK {
			t.Errorf("%s: %v, %d, want %v", c.name, p, e, want)
		}
	}
}

// P2.2: paths that there are not.
func TestNoPath(t *testing.T) {
	none := api.HallSetting{}
	for _, c := range []struct {
		name     string
		h        api.Hall
		s        api.HallSetting
		from, to api.Place
		surfaces []int
	}{
		{"direct through the canopy", sheltered(), heights(0), place(500, 700, 100), place(500, 700, 550), nil},
		{"from below the canopy to above it", sheltered(), heights(0), place(400, 600, 100), place(600, 800, 550), list(6)},
		{"from above the canopy to below it", sheltered(), heights(0), place(400, 600, 550), place(600, 800, 100), list(6)},
		{"by the ceiling through the canopy", sheltered(), heights(0), place(400, 600, 100), place(600, 800, 100), list(5)},
		{"by the ceiling through the canopy on the way back", sheltered(), heights(0), place(100, 1200, 100), place(400, 600, 100), list(5)},
		{"between two points through the canopy", sheltered(), heights(0), place(500, 600, 300), place(500, 800, 300), list(4, 5)},
		{"at the canopy's edge", sheltered(), heights(0), place(100, 700, 100), place(300, 700, 100), list(6)},
		{"beside the canopy", sheltered(), heights(0), place(100, 700, 100), place(200, 700, 100), list(6)},
		{"from the canopy by itself", sheltered(), heights(0), place(500, 700, 400), place(500, 800, 500), list(6)},
		{"to the canopy by itself", sheltered(), heights(0), place(500, 800, 500), place(500, 700, 400), list(6)},
		{"direct behind the tip", tipped(), none, place(10, 15, 5), place(35, 14, 5), nil},
		{"touching the tip", tipped(), none, place(22, 10, 5), place(38, 10, 5), nil},
		{"along a wall's line through a corner", angle(), none, place(10, 20, 5), place(25, 19, 5), list(2)},
		{"at the end of an inward corner", angle(), none, place(10, 15, 5), place(10, 25, 5), list(3)},
		{"beside the wall", angle(), none, place(10, 10, 5), place(10, 25, 5), list(3)},
		{"the wall's other side", angle(), none, place(25, 10, 5), place(29, 10, 5), list(3)},
		{"the corner between walls in one line", plans()["straight"], none, place(5, 5, 5), place(15, 5, 5), list(0)},
		{"the same corner, the other wall", plans()["straight"], none, place(5, 5, 5), place(15, 5, 5), list(1)},
		{"by both walls in one line", plans()["straight"], none, place(4, 5, 5), place(15, 5, 5), list(0, 1)},
		{"in the corner of two walls", box(), none, place(900, 1900, 100), place(800, 1800, 100), list(1, 2)},
		{"in the edge of wall and floor", box(), none, place(900, 1000, 100), place(800, 1000, 200), list(1, 4)},
		{"the wrong order of walls", box(), none, place(900, 1800, 100), place(800, 1900, 100), list(2, 1, 2)},
	} {
		if p, e := image.PathOf(c.h, c.s, ask(c.from, c.to, 0), c.surfaces); !isNoPath(p) || e != api.ErrNone {
			t.Errorf("%s: %v, %d", c.name, p, e)
		}
		if l, e := image.Paths(c.h, c.s, ask(c.from, c.to, 3)); e != api.OK || slices.ContainsFunc(l, func(p api.ImagePath) bool { return slices.Equal(p.Surfaces, c.surfaces) }) {
			t.Errorf("%s, of all: %v, %d", c.name, l, e)
		}
	}
}

// P2.2: the order of paths: by squares, by how many surfaces, by these.
func TestPathsInOrder(t *testing.T) {
	for _, c := range []struct {
		name    string
		h       api.Hall
		x       api.ImageAsk
		squares []int
		want    [][]int
	}{
		{"order 0", box(), example(0), list(20000), [][]int{{}}},
		{"order 1", box(), example(1), list(20000, 50000, 380000, 1010000, 1980000, 2260000, 6260000), [][]int{{}, {4}, {3}, {5}, {1}, {0}, {2}}},
		{"the same squares", cube(), ask(place(10, 10, 2), place(10, 10, 8), 1), list(36, 100, 100, 436, 436, 436, 436), [][]int{{}, {4}, {5}, {0}, {1}, {2}, {3}}},
		{"nothing", tipped(), ask(place(22, 10, 5), place(38, 10, 5), 0), nil, nil},
	} {
		l, e := image.Paths(c.h, api.HallSetting{}, c.x)
		if e != api.OK || len(l) != len(c.want) {
			t.Errorf("%s: %v, %d", c.name, l, e)
			continue
		}
		for i, p := range l {
			if !slices.Equal(p.Surfaces, c.want[i]) || p.Square != c.squares[i] {
				t.Errorf("%s, %d: %v, want %v, %d", c.name, i, p, c.want[i], c.squares[i])
			}
		}
	}
	l, e := image.Paths(shaft(), api.HallSetting{}, ask(place(10, 20, 10), place(10, 20, 40), 2))
	var same [][]int
	for _, p := range l {
		if p.Square == 2500 {
			same = append(same, p.Surfaces)
		}
	}
	if want := [][]int{{0}, {4}, {1, 3}, {3, 1}}; !slices.EqualFunc(same, want, slices.Equal) || e != api.OK {
		t.Errorf("fewer surfaces first: %v, %d", same, e)
	}
}

// walksOf is all lists of so many surfaces of a hall at most.
func walksOf(h api.Hall, most int) [][]int {
	all := [][]int{{}}
	for i := 0; i < len(all); i++ {
		if len(all[i]) == most {
			continue
		}
		for n := range len(h.Walls) + 2 + len(h.Canopies) {
			if k := len(all[i]); k == 0 || all[i][k-1] != n {
				all = append(all, append(slices.Clone(all[i]), n))
			}
		}
	}
	return all
}

// pathSlowly finds a path from the images of the seat, where the package goes by those of the source.
func pathSlowly(h api.Hall, s api.HallSetting, x api.ImageAsk, surfaces []int) (api.ImagePath, bool) {
	images := []api.Place{x.To} // the first one is the seat, the last one that in all surfaces
	for i := len(surfaces) - 1; i >= 0; i-- {
		plane, _ := hall.PlaneOf(h, s, surfaces[i])
		image, _ := hall.MirrorIn(plane, images[len(images)-1])
		images = append(images, image)
	}
	last := images[len(surfaces)]
	dx, dy, dz := last.X-x.From.X, last.Y-x.From.Y, last.Z-x.From.Z
	p := api.ImagePath{Square: dx*dx + dy*dy + dz*dz}
	here := at(x.From.X, x.From.Y, x.From.Z)
	step := func(to api.HallPoint) bool {
		free, e := hall.IsFree(h, s, api.HallWay{From: here, To: to})
		here = to
		return free && e == api.OK
	}
	for i, n := range surfaces {
		to, e := hall.CrossAt(h, s, api.HallCross{Surface: n, From: images[len(surfaces)-i], To: here})
		if e != api.OK || !step(to) {
			return api.ImagePath{}, false
		}
		p.Surfaces, p.Points = append(p.Surfaces, n), append(p.Points, to)
	}
	return p, step(at(x.To.X, x.To.Y, x.To.Z))
}

// askCase is a hall in a setting and an ask.
type askCase struct {
	h api.Hall
	s api.HallSetting
	x api.ImageAsk
}

func askCases() []askCase {
	none := api.HallSetting{}
	drawn := api.HallSetting{Heights: list(0), Drawn: list(1)}
	var l []askCase
	for _, z := range list(1, 3, 5, 9) {
		l = append(l,
			askCase{plans()["bay"], none, ask(place(5, 20, z), place(30, 29, 4), 3)},
			askCase{plans()["hook"], none, ask(place(10, 35, z), place(40, 5, 10-z), 2)},
			askCase{angle(), none, ask(place(10, 20, z), place(11, 38, 5), 3)},
			askCase{tipped(), none, ask(place(10, 10, z), place(33, 5, z), 3)},
		)
	}
	great := plans()["great"]
	great.Height = api.MaxPlace
	for i := range 6 {
		l = append(l, askCase{roofed(), heights(i%3, i%2), ask(place(5, 6+i, 1+i), place(12, 18-i, 2), 2)})
	}
	return append(l,
		askCase{box(), none, example(4)},
		askCase{sheltered(), heights(0), ask(place(300, 700, 150), place(600, 1800, 50), 3)},
		askCase{sheltered(), drawn, ask(place(301, 701, 451), place(599, 1800, 50), 3)},
		askCase{cube(), none, ask(place(10, 10, 5), place(5, 15, 5), 4)},
		askCase{shaft(), none, ask(place(10, 20, 10), place(10, 20, 40), 3)},
		askCase{great, none, ask(place(-4999, -3000, 1), place(4999, 4000, 4999), 3)},
		askCase{great, none, ask(place(-4999, 4998, 4999), place(4998, -4999, 1), 3)},
		askCase{plans()["star"], none, ask(place(10, 15, 4), place(19, 29, 6), 3)},
		askCase{plans()["octagon"], none, ask(place(12, 12, 5), place(13, 20, 2), 3)},
		askCase{plans()["straight"], none, ask(place(5, 5, 5), place(15, 5, 5), 3)},
	)
}

func inOrder(a, b api.ImagePath) bool {
	if a.Square != b.Square {
		return a.Square < b.Square
	}
	if len(a.Surfaces) != len(b.Surfaces) {
		return len(a.Surfaces) < len(b.Surfaces)
	}
	return slices.Compare(a.Surfaces, b.Surfaces) < 0
}

// P2.2, P2.7: Paths has each path once, in order, and no other; PathOf returns it, and CheckPath accepts it.
func TestPathsAgainstSlow(t *testing.T) {
	met := map[int]int{} // how many paths meet so many surfaces
	for i, c := range askCases() {
		l, e := image.Paths(c.h, c.s, c.x)
		if e != api.OK {
			t.Fatalf("%d: %d", i, e)
		}
		count := 0
		for _, surfaces := range walksOf(c.h, c.x.Order) {
			want, isThere := pathSlowly(c.h, c.s, c.x, surfaces)
			at := slices.IndexFunc(l, func(p api.ImagePath) bool { return slices.Equal(p.Surfaces, surfaces) })
			if isThere != (at >= 0) || isThere && !equal(l[at], want) {
				t.Fatalf("%d by %v: at %d, want %v, %v", i, surfaces, at, want, isThere)
			}
			if !isThere && len(surfaces) > 2 {
				continue
			}
			p, e := image.PathOf(c.h, c.s, c.x, surfaces)
			if isThere && (!equal(p, want) || e != api.OK) || !isThere && (!isNoPath(p) || e != api.ErrNone) {
				t.Fatalf("%d alone by %v: %v, %d, want %v, %v", i, surfaces, p, e, want, isThere)
			}
			if isThere {
				count++
				met[len(surfaces)]++
				wantErrno(t, "CheckPath", image.CheckPath(c.h, c.s, c.x, p), api.OK)
			}
		}
		for k := 1; k < len(l); k++ {
			if !inOrder(l[k-1], l[k]) {
				t.Errorf("%d: %v ahead of %v", i, l[k-1], l[k])
			}
		}
		if count != len(l) {
			t.Errorf("%d: %d paths, want %d", i, len(l), count)
		}
	}
	if met[0] < 10 || met[1] < 50 || met[2] < 100 || met[3] < 200 || met[4] < 50 {
		t.Errorf("too few paths: %v", met)
	}
}

// P2.2: there may be more paths than lists of GapOf and Arrived may have.
func TestManyPaths(t *testing.T) {
	h := box()
	for _, name := range []string{"k0", "k1", "k2", "k3"} {
		h.Canopies = append(h.Canopies, api.HallCanopy{Name: name, Material: "w", From: corner(1, 1), To: corner(999, 1999), Heights: list(400)})
	}
	s := heights(0, 0, 0, 0)
	l, e := image.Paths(h, s, example(4))
	if e != api.OK || len(l) <= api.MaxImagePaths {
		t.Fatalf("%d paths, %d", len(l), e)
	}
	for k := 1; k < len(l); k++ {
		if !inOrder(l[k-1], l[k]) {
			t.Errorf("%v ahead of %v", l[k-1], l[k])
		}
	}
	count := 0
	for _, surfaces := range walksOf(h, 2) {
		if _, isThere := pathSlowly(h, s, example(4), surfaces); isThere {
			count++
		}
	}
	few := 0
	for _, p := range l {
		if len(p.Surfaces) <= 2 {
			few++
		}
	}
	if few != count {
		t.Errorf("%d paths by few surfaces, want %d", few, count)
	}
	_, e = image.GapOf(l, 34000)
	wantErrno(t, "as a list", e, api.ErrLarge)
}

// P2.7: the direct way comes first, if it is free.
func TestDirectFirst(t *testing.T) {
	for i, c := range askCases() {
		l, _ := image.Paths(c.h, c.s, c.x)
		way := api.HallWay{From: at(c.x.From.X, c.x.From.Y, c.x.From.Z), To: at(c.x.To.X, c.x.To.Y, c.x.To.Z)}
		free, e := hall.IsFree(c.h, c.s, way)
		if isFirst := len(l) > 0 && len(l[0].Surfaces) == 0; isFirst != free || e != api.OK {
			t.Errorf("%d: %v, free %v, %d", i, isFirst, free, e)
		}
	}
}

// P2.8: the paths from the seat are the paths turned, by the same squares.
func TestReciprocity(t *testing.T) {
	for i, c := range askCases() {
		l, _ := image.Paths(c.h, c.s, c.x)
		back, e := image.Paths(c.h, c.s, ask(c.x.To, c.x.From, c.x.Order))
		if e != api.OK || len(back) != len(l) {
			t.Errorf("%d: %d paths, %d back, %d", i, len(l), len(back), e)
		}
		for _, p := range l {
			q, e := image.Turned(p)
			if e != api.OK || !slices.ContainsFunc(back, func(b api.ImagePath) bool { return equal(b, q) }) {
				t.Errorf("%d: %v is not there, %d", i, q, e)
			}
		}
	}
}

// spot is a point in fractions.
type spot [3]*big.Rat

func spotOf(p api.HallPoint) spot {
	den := int64(p.Den)
	return spot{big.NewRat(int64(p.X), den), big.NewRat(int64(p.Y), den), big.NewRat(int64(p.Z), den)}
}

func less(a, b *big.Rat) *big.Rat  { return new(big.Rat).Sub(a, b) }
func plus(a, b *big.Rat) *big.Rat  { return new(big.Rat).Add(a, b) }
func times(a, b *big.Rat) *big.Rat { return new(big.Rat).Mul(a, b) }
func number(n int) *big.Rat        { return big.NewRat(int64(n), 1) }

func mirroredSpot(p api.HallPlane, s spot) spot {
	n := number(p.At)
	twice := func(v *big.Rat) *big.Rat { return less(plus(n, n), v) }
	switch p.Kind {
	case api.PlaneX:
		return spot{twice(s[0]), s[1], s[2]}
	case api.PlaneY:
		return spot{s[0], twice(s[1]), s[2]}
	case api.PlaneZ:
		return spot{s[0], s[1], twice(s[2])}
	case api.PlaneSum:
		return spot{less(n, s[1]), less(n, s[0]), s[2]}
	}
	return spot{plus(n, s[1]), less(s[0], n), s[2]}
}

// isBetweenSpots tells whether b lies on the straight way from a to c.
func isBetweenSpots(a, b, c spot) bool {
	ahead := new(big.Rat)
	for i := range 3 {
		k := (i + 1) % 3
		if less(times(less(b[i], a[i]), less(c[k], a[k])), times(less(b[k], a[k]), less(c[i], a[i]))).Sign() != 0 {
			return false
		}
		ahead.Add(ahead, times(less(b[i], a[i]), less(c[i], b[i])))
	}
	return ahead.Sign() > 0
}

func distance(a, b spot) float64 {
	sum := new(big.Rat)
	for i := range 3 {
		d := less(a[i], b[i])
		sum.Add(sum, times(d, d))
	}
	f, _ := sum.Float64()
	return math.Sqrt(f)
}

// P2.9: at each surface the image of the point before, the point and the one behind lie in one line, and the distances add up to the length.
func TestSpecular(t *testing.T) {
	for i, c := range askCases() {
		l, _ := image.Paths(c.h, c.s, c.x)
		for _, p := range l {
			stops := []spot{spotOf(at(c.x.From.X, c.x.From.Y, c.x.From.Z))}
			for _, q := range p.Points {
				stops = append(stops, spotOf(q))
			}
			stops = append(stops, spotOf(at(c.x.To.X, c.x.To.Y, c.x.To.Z)))
			for k, n := range p.Surfaces {
				plane, _ := hall.PlaneOf(c.h, c.s, n)
				if !isBetweenSpots(mirroredSpot(plane, stops[k]), stops[k+1], stops[k+2]) {
					t.Errorf("%d: %v is not straight at %d", i, p, k)
				}
			}
			sum := 0.0
			for k := range len(stops) - 1 {
				sum += distance(stops[k], stops[k+1])
			}
			length, e := image.LengthOf(p)
			if slack := 1e-3; e != api.OK || sum*10000 < float64(length.Lo)-slack || sum*10000 > float64(length.Hi)+slack {
				t.Errorf("%d: %v has %v, not %v, %d", i, p, sum, length, e)
			}
		}
	}
}

// P2.2: paths with the greatest denominators.
func TestFarPaths(t *testing.T) {
	h := plans()["great"]
	h.Height = api.MaxPlace
	r := rand.New(rand.NewSource(3))
	most, found := 0, 0
	for range 3000 {
		x := ask(place(r.Intn(200)-5000, r.Intn(9000)-4900, 1+r.Intn(4999)), place(4999-r.Intn(200), r.Intn(9000)-4900, 1+r.Intn(4999)), 4)
		if image.CheckAsk(h, api.HallSetting{}, x) != api.OK {
			continue
		}
		surfaces := list(r.Intn(7))
		for len(surfaces) < 4 {
			if n := r.Intn(7); n != surfaces[len(surfaces)-1] {
				surfaces = append(surfaces, n)
			}
		}
		want, isThere := pathSlowly(h, api.HallSetting{}, x, surfaces)
		p, e := image.PathOf(h, api.HallSetting{}, x, surfaces)
		if isThere != (e == api.OK) || isThere && !equal(p, want) {
			t.Fatalf("%v by %v: %v, %d, want %v, %v", x, surfaces, p, e, want, isThere)
		}
		for _, q := range p.Points {
			most = max(most, q.Den)
			found++
		}
	}
	if most < 30000 || found < 20 {
		t.Errorf("%d points with denominators up to %d", found, most)
	}
}

// P2.2: CheckPath refuses what is not the path by its surfaces.
func TestCheckPath(t *testing.T) {
	right := api.ImagePath{Surfaces: list(1, 3), Points: points(at(1000, 735, 115), at(0, 785, 65)), Square: 4020000}
	change := func(f func(p *api.ImagePath)) api.ImagePath {
		p := api.ImagePath{Surfaces: slices.Clone(right.Surfaces), Points: slices.Clone(right.Points), Square: right.Square}
		f(&p)
		return p
	}
	five := []api.HallPoint{{}, {}, {}, {}, {}}
	for _, c := range []struct {
		name  string
		p     api.ImagePath
		order int
		want  api.Errno
	}{
		{"right", right, 2, api.OK},
		{"right within 4", right, 4, api.OK},
		{"direct", api.ImagePath{Square: 20000}, 0, api.OK},
		{"direct, empty", api.ImagePath{Surfaces: list(), Points: points(), Square: 20000}, 0, api.OK},
		{"more than the order", right, 1, api.ErrRange},
		{"more than the order 0", right, 0, api.ErrRange},
		{"one point less", change(func(p *api.ImagePath) { p.Points = p.Points[:1] }), 2, api.ErrShape},
		{"one point more", change(func(p *api.ImagePath) { p.Points = append(p.Points, at(0, 0, 0)) }), 2, api.ErrShape},
		{"shape ahead of too many", change(func(p *api.ImagePath) { p.Surfaces = list(0, 1, 0, 1, 0) }), 2, api.ErrShape},
		{"too many ahead of the square", api.ImagePath{Surfaces: list(0, 1, 0, 1, 0), Points: five}, 2, api.ErrLarge},
		{"square 0", change(func(p *api.ImagePath) { p.Square = 0 }), 2, api.ErrRange},
		{"square too great", change(func(p *api.ImagePath) { p.Square = api.MaxImageSquare + 1 }), 2, api.ErrRange},
		{"square ahead of surfaces", change(func(p *api.ImagePath) { p.Square, p.Surfaces[0] = 0, 9 }), 2, api.ErrRange},
		{"no surface", change(func(p *api.ImagePath) { p.Surfaces[1] = 6 }), 2, api.ErrMissing},
		{"surfaces ahead of the order", change(func(p *api.ImagePath) { p.Surfaces[1] = 6 }), 1, api.ErrMissing},
		{"one twice", change(func(p *api.ImagePath) { p.Surfaces[1] = 1 }), 1, api.ErrDouble},
		{"the order ahead of the proof", change(func(p *api.ImagePath) { p.Square++ }), 1, api.ErrRange},
		{"another square", change(func(p *api.ImagePath) { p.Square++ }), 2, api.ErrProof},
		{"the greatest square", change(func(p *api.ImagePath) { p.Square = api.MaxImageSquare }), 2, api.ErrProof},
		{"another point", change(func(p *api.ImagePath) { p.Points[1].Y++ }), 2, api.ErrProof},
		{"another first point", change(func(p *api.ImagePath) { p.Points[0].Z-- }), 2, api.ErrProof},
		{"not in lowest terms", change(func(p *api.ImagePath) { p.Points[1] = over(0, 1570, 130, 2) }), 2, api.ErrProof},
		{"no point", change(func(p *api.ImagePath) { p.Points[0] = api.HallPoint{} }), 2, api.ErrProof},
		{"points turned", change(func(p *api.ImagePath) { slices.Reverse(p.Points) }), 2, api.ErrProof},
		{"surfaces turned", change(func(p *api.ImagePath) { slices.Reverse(p.Surfaces) }), 2, api.ErrProof},
		{"another surface", change(func(p *api.ImagePath) { p.Surfaces[0] = 0 }), 2, api.ErrProof},
	} {
		wantErrno(t, c.name, image.CheckPath(box(), api.HallSetting{}, example(c.order), c.p), c.want)
	}
	// a right path by its numbers, but the canopy hangs in its way
	x := ask(place(400, 600, 100), place(600, 800, 100), 1)
	p := api.ImagePath{Surfaces: list(5), Points: points(at(500, 700, 600)), Square: 1080000}
	wantErrno(t, "without the canopy", image.CheckPath(box(), api.HallSetting{}, x, p), api.OK)
	wantErrno(t, "through the canopy", image.CheckPath(sheltered(), heights(0), x, p), api.ErrProof)
	x = ask(place(500, 700, 100), place(500, 700, 550), 1)
	wantErrno(t, "no direct way", image.CheckPath(sheltered(), heights(0), x, api.ImagePath{Square: 450 * 450}), api.ErrProof)
}

// pathErrors is paths with what is wrong with them alone.
var pathErrors = []struct {
	p    api.ImagePath
	want api.Errno
}{
	{api.ImagePath{Square: 1}, api.OK},
	{api.ImagePath{Square: api.MaxImageSquare}, api.OK},
	{api.ImagePath{Square: 0}, api.ErrRange},
	{api.ImagePath{Square: -1}, api.ErrRange},
	{api.ImagePath{Square: leastInt}, api.ErrRange},
	{api.ImagePath{Square: api.MaxImageSquare + 1}, api.ErrRange},
	{api.ImagePath{Surfaces: []int{1}, Square: 1}, api.ErrShape},
	{api.ImagePath{Points: []api.HallPoint{{}}, Square: 1}, api.ErrShape},
	{api.ImagePath{Surfaces: []int{1, 2, 3, 4, 5}, Square: 0}, api.ErrShape},
	{api.ImagePath{Surfaces: []int{1, 2, 3, 4, 5}, Points: []api.HallPoint{{}, {}, {}, {}, {}}, Square: 0}, api.ErrLarge},
	{api.ImagePath{Surfaces: []int{1, 2, 3, 4}, Points: []api.HallPoint{{}, {}, {}, {}}, Square: 0}, api.ErrRange},
	{api.ImagePath{Surfaces: []int{7, 7, -7, 7}, Points: []api.HallPoint{{}, {}, {}, {}}, Square: 9}, api.OK},
}

// P2.2: a path the other way round.
func TestTurned(t *testing.T) {
	p := api.ImagePath{Surfaces: list(1, 3, 99), Points: points(at(1, 2, 3), over(2, 4, 6, 2), over(0, 0, 0, -1)), Square: 77}
	want := api.ImagePath{Surfaces: list(99, 3, 1), Points: points(over(0, 0, 0, -1), over(2, 4, 6, 2), at(1, 2, 3)), Square: 77}
	q, e := image.Turned(p)
	if !equal(q, want) || e != api.OK {
		t.Errorf("turned: %v, %d", q, e)
	}
	if back, e := image.Turned(q); !equal(back, p) || e != api.OK {
		t.Errorf("turned twice: %v, %d", back, e)
	}
	if q, e := image.Turned(api.ImagePath{Square: 5}); !equal(q, api.ImagePath{Square: 5}) || e != api.OK {
		t.Errorf("direct: %v, %d", q, e)
	}
	for _, c := range pathErrors {
		q, e := image.Turned(c.p)
		wantErrno(t, "Turned", e, c.want)
		if e != api.OK && !isNoPath(q) {
			t.Errorf("%v: %v", c.p, q)
		}
	}
}
