package image_test

import (
	"reflect"
	"slices"
	"testing"

	"shoebox/api"
	"shoebox/image"
)

// R4: no function changes its arguments.
func TestArgumentsStay(t *testing.T) {
	h, s := roofed(), heights(0, 1)
	surfaces := append(make([]int, 0, 8), 0, 4)
	x := ask(place(5, 5, 1), place(12, 18, 2), 2)
	p := api.ImagePath{Surfaces: list(1, 3), Points: points(at(1, 2, 3), at(4, 5, 6)), Square: 7}
	beams, _ := image.Beams(h, corner(5, 5), 1)
	again, _ := image.Beams(h, corner(5, 5), 1)
	image.ImageAt(h, s, x.From, surfaces)
	image.PathOf(h, s, x, surfaces)
	image.Paths(h, s, x)
	image.CheckPath(h, s, x, p)
	image.Turned(p)
	image.GapOf([]api.ImagePath{p, p}, 34000)
	image.CheckBeams(h, corner(5, 5), 1, beams)
	image.Reached(h, x)
	image.FormatWalk(h, surfaces)
	image.ParseWalk(h, "n0")
	if !reflect.DeepEqual(h, roofed()) || !reflect.DeepEqual(s, heights(0, 1)) {
		t.Errorf("changed: %v, %v", h, s)
	}
	if !slices.Equal(surfaces[:4], list(0, 4, 0, 0)) || !slices.Equal(p.Surfaces, list(1, 3)) || p.Points[0] != at(1, 2, 3) {
		t.Errorf("changed: %v, %v", surfaces[:4], p)
	}
	if !slices.EqualFunc(beams, again, equalBeams) {
		t.Errorf("changed: %v", beams)
	}
}

// R4: paths share nothing with arguments, nor with each other.
func TestPathsAreNew(t *testing.T) {
	surfaces := list(1, 3)
	p, _ := image.PathOf(box(), api.HallSetting{}, example(0), surfaces)
	surfaces[0] = 77
	if !slices.Equal(p.Surfaces, list(1, 3)) {
		t.Errorf("PathOf: %v", p)
	}
	q, _ := image.Turned(p)
	q.Surfaces[0], q.Points[0] = 77, at(7, 7, 7)
	_, _ = append(q.Surfaces[:1], 78), append(q.Points[:1], at(8, 8, 8))
	if e := image.CheckPath(box(), api.HallSetting{}, example(2), p); e != api.OK {
		t.Errorf("Turned: %v, %d", p, e)
	}
	l, _ := image.Paths(box(), api.HallSetting{}, example(3))
	want, _ := image.Paths(box(), api.HallSetting{}, example(3))
	for i := range l {
		_, _ = append(l[i].Surfaces, 77, 77), append(l[i].Points, at(7, 7, 7), at(7, 7, 7))
	}
	if !slices.EqualFunc(l, want, equal) {
		t.Errorf("Paths, appended to: %v", l)
	}
	for i := range l {
		for k := range l[i].Surfaces {
			l[i].Surfaces[k], l[i].Points[k] = -1, at(7, 7, 7)
		}
		if i+1 < len(l) && !equal(l[i+1], want[i+1]) {
			t.Errorf("Paths, changed: %v", l[i+1])
		}
	}
}

// R4: the lists of beams, of what is reached and of walks share nothing.
func TestListsAreNew(t *testing.T) {
	l, _ := image.Beams(box(), corner(500, 1000), 3)
	want, _ := image.Beams(box(), corner(500, 1000), 3)
	for i := range l {
		_ = append(l[i].Walls, 77, 77)
	}
	if !slices.EqualFunc(l, want, equalBeams) {
		t.Errorf("Beams, appended to: %v", l)
	}
	for i := range l {
		for k := range l[i].Walls {
			l[i].Walls[k] = -1
		}
		if i+1 < len(l) && !equalBeams(l[i+1], want[i+1]) {
			t.Fatalf("Beams, changed: %v", l[i+1])
		}
	}
	x := ask(place(500, 1000, 100), place(510, 1200, 300), 3)
	r, _ := image.Reached(box(), x)
	same, _ := image.Reached(box(), x)
	for i := range r {
		_ = append(r[i], 77, 77)
	}
	if !slices.EqualFunc(r, same, slices.Equal) {
		t.Errorf("Reached, appended to: %v", r)
	}
	for i := range r {
		for k := range r[i] {
			r[i][k] = -1
		}
		if i+1 < len(r) && !slices.Equal(r[i+1], same[i+1]) {
			t.Fatalf("Reached, changed: %v", r[i+1])
		}
	}
}
