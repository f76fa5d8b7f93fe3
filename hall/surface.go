package hall

import (
	"slices"
	"sort"

	"shoebox/api"
)

// surface is a surface of a room in its setting.
type surface struct {
	plane    api.HallPlane
	material string
	area     api.Range
	sides    int
	// holdsWell tells of a point of the plane whether it lies on the surface, away from its edges.
	holdsWell func(p api.HallPoint) bool
}

func (r *room) countSurfaces() int { return len(r.Walls) + 2 + len(r.Canopies) }

// surface is the surface with a number that there is.
func (r *room) surface(n int) surface {
	walls := len(r.Walls)
	switch n {
	case walls:
		return r.level(0, r.Floor)
	case walls + 1:
		return r.level(r.Height, r.Ceiling)
	}
	if n < walls {
		return r.wall(n)
	}
	return r.canopy(n - walls - 2)
}

func (r *room) wall(n int) surface {
	line := r.line(n)
	material := r.Walls[n].Material
	if slices.Contains(r.setting.Drawn, n) {
		material = r.Walls[n].Curtain
	}
	return surface{
		plane:    line.plane(),
		material: material,
		area:     wallArea(line, r.Height),
		sides:    1,
		holdsWell: func(p api.HallPoint) bool {
			return r.isBetween(p) && line.holdsWell(p)
		},
	}
}

// level is the floor or the ceiling.
func (r *room) level(z int, material string) surface {
	twice := r.twiceArea()
	return surface{
		plane:     api.HallPlane{Kind: api.PlaneZ, At: z},
		material:  material,
		area:      api.Range{Lo: twice / 2, Hi: (twice + 1) / 2},
		sides:     1,
		holdsWell: r.covers,
	}
}

func (r *room) canopy(n int) surface {
	c := r.Canopies[n]
	s := sheetOf(c)
	return surface{
		plane:     r.canopyPlane(n),
		material:  c.Material,
		area:      api.Range{Lo: s.area(), Hi: s.area()},
		sides:     2,
		holdsWell: s.holdsWell,
	}
}

// wallArea is exact but for diagonal walls: the root of 2 is no fraction.
func wallArea(line edge, height int) api.Range {
	area := line.reach() * height
	if !line.isDiagonal() {
		return api.Range{Lo: area, Hi: area}
	}
	least := root(2 * area * area)
	return api.Range{Lo: least, Hi: least + 1}
}

// root is the root of a number, rounded down: in whole numbers, because that of a float may be rounded up.
func root(n int) int {
	const most = 1 << 31
	return sort.Search(most, func(k int) bool { return (k+1)*(k+1) > n })
}

// material is the material of a name that there is.
func (r *room) material(name string) api.HallMaterial {
	for _, m := range r.Materials {
		if m.Name == name {
			return m
		}
	}
	return api.HallMaterial{}
}

// surfaceIn is the surface with a number, behind the errors of its hall and its setting.
func surfaceIn(h api.Hall, s api.HallSetting, n int) (*room, surface, api.Errno) {
	r, e := visitIn(h, s)
	switch {
	case e != api.OK:
		return nil, surface{}, e
	case n < 0 || n >= r.countSurfaces():
		return nil, surface{}, api.ErrMissing
	}
	return r, r.surface(n), api.OK
}

// Surfaces returns the names of all surfaces.
func Surfaces(h api.Hall) ([]string, api.Errno) {
	r, e := visit(h)
	if e != api.OK {
		return nil, e
	}
	var l []string
	for _, w := range r.Walls {
		l = append(l, w.Name)
	}
	l = append(l, floorName, ceilingName)
	for _, c := range r.Canopies {
		l = append(l, c.Name)
	}
	return l, api.OK
}

// TwiceArea returns twice the area of the plan.
func TwiceArea(h api.Hall) (int, api.Errno) {
	r, e := visit(h)
	if e != api.OK {
		return 0, e
	}
	return r.twiceArea(), api.OK
}

// TwiceVolume returns twice the volume of a hall.
func TwiceVolume(h api.Hall) (int, api.Errno) {
	r, e := visit(h)
	if e != api.OK {
		return 0, e
	}
	return r.twiceArea() * r.Height, api.OK
}

// PlaneOf returns the plane of a surface.
func PlaneOf(h api.Hall, s api.HallSetting, surface int) (api.HallPlane, api.Errno) {
	_, f, e := surfaceIn(h, s, surface)
	return f.plane, e
}

// AreaOf returns the area of a surface, rounded down and up.
func AreaOf(h api.Hall, s api.HallSetting, surface int) (api.Range, api.Errno) {
	_, f, e := surfaceIn(h, s, surface)
	return f.area, e
}

// Absorbed returns what the material of a surface absorbs in each band.
func Absorbed(h api.Hall, s api.HallSetting, surface int) ([api.Bands]int, api.Errno) {
	r, f, e := surfaceIn(h, s, surface)
	if e != api.OK {
		return [api.Bands]int{}, e
	}
	return r.material(f.material).Absorbed, api.OK
}

// Scattered returns what the material of a surface scatters.
func Scattered(h api.Hall, s api.HallSetting, surface int) (int, api.Errno) {
	r, f, e := surfaceIn(h, s, surface)
	if e != api.OK {
		return 0, e
	}
	return r.material(f.material).Scattered, api.OK
}

// AbsorptionArea returns the sum of all areas times what is absorbed there in a band.
func AbsorptionArea(h api.Hall, s api.HallSetting, band int) (api.Range, api.Errno) {
	r, e := visitIn(h, s)
	switch {
	case e != api.OK:
		return api.Range{}, e
	case band < 0 || band >= api.Bands:
		return api.Range{}, api.ErrMissing
	}
	low, high := 0, 0
	for n := range r.countSurfaces() {
		f := r.surface(n)
		share := f.sides * r.material(f.material).Absorbed[band]
		low += f.area.Lo * share
		high += f.area.Hi * share
	}
	return api.Range{Lo: low / api.Thousand, Hi: (high + api.Thousand - 1) / api.Thousand}, api.OK
}
