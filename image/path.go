package image

import (
	"cmp"
	"maps"
	"slices"

	"shoebox/api"
	"shoebox/hall"
)

// attend is the stage of an ask, if neither has an error.
func attend(h api.Hall, s api.HallSetting, x api.ImageAsk) (*stage, api.Errno) {
	g, e := enter(h, s)
	if e != api.OK {
		return nil, e
	}
	e = firstError(
		g.inside(x.From),
		g.inside(x.To),
		refuse(x.From == x.To, api.ErrZero),
		ordered(x.Order),
	)
	if e != api.OK {
		return nil, e
	}
	return g, api.OK
}

// CheckAsk returns the first error of an ask, of its hall and its setting.
func CheckAsk(h api.Hall, s api.HallSetting, x api.ImageAsk) api.Errno {
	_, e := attend(h, s, x)
	return e
}

// ImageAt returns the last image of a source for surfaces.
func ImageAt(h api.Hall, s api.HallSetting, from api.Place, surfaces []int) (api.Place, api.Errno) {
	g, e := enter(h, s)
	if e != api.OK {
		return api.Place{}, e
	}
	if e := firstError(g.inside(from), g.known(surfaces)); e != api.OK {
		return api.Place{}, e
	}
	return g.images(from, surfaces)[len(surfaces)], api.OK
}

// images is a source and its images for surfaces. MaxImageOrder of them stay where package hall takes them.
func (g *stage) images(from api.Place, surfaces []int) []api.Place {
	l := []api.Place{from}
	for _, n := range surfaces {
		from, _ = hall.MirrorIn(g.planes[n], from)
		l = append(l, from)
	}
	return l
}

// mayMeet tells whether the straight way between two images crosses the plane of a surface, and of a wall between its ends.
func (g *stage) mayMeet(surface int, from, to api.Place) bool {
	if !g.isAcross(surface, from, to) {
		return false
	}
	if surface >= len(g.Walls) {
		return true
	}
	turn, _ := turnTo(floorOf(from), floorOf(to))
	h, isMet := g.toWall(ray{floorOf(from), turn, noWall}, surface)
	return isMet && !h.isEnd
}

// mayLead tells whether the straight ways between the images of the source and those of the seat meet their surfaces, as they do for any path. It refuses most lists ahead of the questions to package hall, which looks at the whole hall for each of them.
func (g *stage) mayLead(x api.ImageAsk, surfaces []int) bool {
	there, back := g.images(x.From, surfaces), g.images(x.To, turned(surfaces))
	for k, n := range surfaces {
		if !g.mayMeet(n, there[k+1], back[len(surfaces)-1-k]) {
			return false
		}
	}
	return true
}

// pathBy is the path by surfaces; false if there is none.
func (g *stage) pathBy(x api.ImageAsk, surfaces []int) (api.ImagePath, bool) {
	if !g.mayLead(x, surfaces) {
		return api.ImagePath{}, false
	}
	images := g.images(x.From, surfaces)
	stops := make([]api.HallPoint, len(surfaces)+2) // the source, the points, the seat
	stops[0], stops[len(surfaces)+1] = pointOf(x.From), pointOf(x.To)
	for k := len(surfaces); k > 0; k-- {
		cross := api.HallCross{Surface: surfaces[k-1], From: images[k], To: stops[k+1]}
		p, e := hall.CrossAt(g.Hall, g.setting, cross)
		if e != api.OK {
			return api.ImagePath{}, false
		}
		stops[k] = p
	}
	for k := range len(surfaces) + 1 {
		way := api.HallWay{From: stops[k], To: stops[k+1]}
		if isFree, _ := hall.IsFree(g.Hall, g.setting, way); !isFree {
			return api.ImagePath{}, false
		}
	}
	return api.ImagePath{
		Surfaces: slices.Clone(surfaces),
		Points:   stops[1 : len(surfaces)+1 : len(surfaces)+1],
		Square:   square(images[len(surfaces)], x.To),
	}, true
}

// square is that of the distance of two places.
func square(a, b api.Place) int {
	x, y, z := a.X-b.X, a.Y-b.Y, a.Z-b.Z
	return x*x + y*y + z*z
}

// PathOf returns the path of an ask by surfaces.
func PathOf(h api.Hall, s api.HallSetting, x api.ImageAsk, surfaces []int) (api.ImagePath, api.Errno) {
	g, e := attend(h, s, x)
	if e != api.OK {
		return api.ImagePath{}, e
	}
	if e := g.known(surfaces)(); e != api.OK {
		return api.ImagePath{}, e
	}
	p, isThere := g.pathBy(x, surfaces)
	if !isThere {
		return api.ImagePath{}, api.ErrNone
	}
	return p, api.OK
}

// walk is a list of surfaces that can be held against another one.
type walk struct {
	count    int
	surfaces [api.MaxImageOrder]int
}

func walkOf(surfaces []int) walk {
	w := walk{count: len(surfaces)}
	copy(w.surfaces[:], surfaces)
	return w
}

// Paths returns all paths of an ask, in order.
func Paths(h api.Hall, s api.HallSetting, x api.ImageAsk) ([]api.ImagePath, api.Errno) {
	g, e := attend(h, s, x)
	if e != api.OK {
		return nil, e
	}
	found := map[walk]api.ImagePath{}
	for surfaces := range g.walks(x.Order) {
		if p, isThere := g.pathBy(x, surfaces); isThere {
			found[walkOf(surfaces)] = p
		}
	}
	return slices.SortedFunc(maps.Values(found), inOrder), api.OK
}

// inOrder compares paths: by squares, by how many surfaces they have, by these.
func inOrder(a, b api.ImagePath) int {
	return cmp.Or(
		cmp.Compare(a.Square, b.Square),
		cmp.Compare(len(a.Surfaces), len(b.Surfaces)),
		slices.Compare(a.Surfaces, b.Surfaces),
	)
}

// CheckPath accepts a path of an ask.
func CheckPath(h api.Hall, s api.HallSetting, x api.ImageAsk, p api.ImagePath) api.Errno {
	g, e := attend(h, s, x)
	if e != api.OK {
		return e
	}
	return firstError(
		whole(p),
		g.known(p.Surfaces),
		within(len(p.Surfaces), 0, x.Order),
		func() api.Errno {
			right, isThere := g.pathBy(x, p.Surfaces)
			isProved := isThere && p.Square == right.Square && slices.Equal(p.Points, right.Points)
			return refuse(!isProved, api.ErrProof)()
		},
	)
}

// whole is the condition that a path is one, as far as it tells alone.
func whole(p api.ImagePath) condition {
	return func() api.Errno {
		return firstError(
			refuse(len(p.Points) != len(p.Surfaces), api.ErrShape),
			refuse(len(p.Surfaces) > api.MaxImageOrder, api.ErrLarge),
			within(p.Square, 1, api.MaxImageSquare),
		)
	}
}

// Turned returns a path the other way round.
func Turned(p api.ImagePath) (api.ImagePath, api.Errno) {
	if e := whole(p)(); e != api.OK {
		return api.ImagePath{}, e
	}
	return api.ImagePath{Surfaces: turned(p.Surfaces), Points: turned(p.Points), Square: p.Square}, api.OK
}

// turned is a list from its end to its beginning.
func turned[T any](l []T) []T {
	l = slices.Clone(l)
	slices.Reverse(l)
	return l
}
