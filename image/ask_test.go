package image_test

import (
	"testing"

	"shoebox/api"
	"shoebox/image"
)

// P2.1: the errors of an ask, in their order; all functions that take an ask return them.
func TestAskErrors(t *testing.T) {
	right, other := place(300, 700, 150), place(300, 800, 50)
	for _, c := range []struct {
		name  string
		x     api.ImageAsk
		errno api.Errno
	}{
		{"right", ask(right, other, 0), api.OK},
		{"order 4", ask(right, place(1, 1, 1), 4), api.OK},
		{"next to all surfaces", ask(place(999, 1999, 599), place(1, 1, 1), 0), api.OK},
		{"one above the other", ask(right, place(300, 700, 151), 0), api.OK},
		{"order -1", ask(right, other, -1), api.ErrRange},
		{"order 5", ask(right, other, 5), api.ErrRange},
		{"least order", ask(right, other, leastInt), api.ErrRange},
		{"the same", ask(right, right, 0), api.ErrZero},
		{"the same ahead of the order", ask(right, right, 5), api.ErrZero},
		{"the same on a wall", ask(place(0, 1, 1), place(0, 1, 1), 0), api.ErrBreak},
		{"From too far in X", ask(place(5001, 1, 1), other, 0), api.ErrRange},
		{"From too far in Y", ask(place(1, -5001, 1), other, 0), api.ErrRange},
		{"From too far in Z", ask(place(1, 1, 5001), other, 0), api.ErrRange},
		{"From at the least int", ask(place(0, 0, leastInt), other, 0), api.ErrRange},
		{"From on a wall", ask(place(1000, 1, 1), other, 0), api.ErrBreak},
		{"From in a corner", ask(place(0, 0, 1), other, 0), api.ErrBreak},
		{"From on the floor", ask(place(1, 1, 0), other, 0), api.ErrBreak},
		{"From on the ceiling", ask(place(1, 1, 600), other, 0), api.ErrBreak},
		{"From outside", ask(place(5000, 5000, 5000), other, 0), api.ErrBreak},
		{"To too far in X", ask(right, place(-5001, 1, 1), 0), api.ErrRange},
		{"To too far in Y", ask(right, place(1, 5001, 1), 0), api.ErrRange},
		{"To too far in Z", ask(right, place(1, 1, -5001), 0), api.ErrRange},
		{"To on a wall", ask(right, place(1, 2000, 1), 0), api.ErrBreak},
		{"To below the floor", ask(right, place(1, 1, -1), 0), api.ErrBreak},
		{"To above the ceiling", ask(right, place(1, 1, 601), 0), api.ErrBreak},
		{"From ahead of To", ask(place(0, 1, 1), place(5001, 1, 1), 5), api.ErrBreak},
		{"From ahead of To, the other way", ask(place(5001, 1, 1), place(0, 1, 1), 5), api.ErrRange},
		{"To ahead of the order", ask(right, place(0, 1, 1), 5), api.ErrBreak},
	} {
		s := api.HallSetting{Drawn: list(1)}
		wantErrno(t, c.name, image.CheckAsk(box(), s, c.x), c.errno)
		p, e := image.PathOf(box(), s, c.x, nil)
		wantErrno(t, c.name+": PathOf", e, c.errno)
		l, e := image.Reached(box(), c.x)
		wantErrno(t, c.name+": Reached", e, c.errno)
		if c.errno == api.OK {
			continue
		}
		m, e := image.Paths(box(), s, c.x)
		wantErrno(t, c.name+": Paths", e, c.errno)
		if !isNoPath(p) || len(l)+len(m) > 0 {
			t.Errorf("%s: %v, %v, %v", c.name, p, l, m)
		}
		_, e = image.PathOf(box(), s, c.x, list(9, 9))
		wantErrno(t, c.name+": PathOf, ahead of surfaces", e, c.errno)
		e = image.CheckPath(box(), s, c.x, api.ImagePath{Surfaces: list(9)})
		wantErrno(t, c.name+": CheckPath, ahead of the path", e, c.errno)
	}
}

// P2.1: a place on a canopy is in the hall.
func TestAskOnCanopy(t *testing.T) {
	wantErrno(t, "on a canopy", image.CheckAsk(sheltered(), heights(0), ask(place(500, 700, 400), place(500, 700, 500), 0)), api.OK)
}

// surfaceErrors is what is wrong with lists of surfaces of the box.
var surfaceErrors = []struct {
	surfaces []int
	want     api.Errno
}{
	{list(), api.OK},
	{list(5), api.OK},
	{list(1, 3, 1, 3), api.OK},
	{list(4, 5, 4), api.OK},
	{list(6), api.ErrMissing},
	{list(-1), api.ErrMissing},
	{list(leastInt), api.ErrMissing},
	{list(0, 1, 2, 6), api.ErrMissing},
	{list(1, 1), api.ErrDouble},
	{list(0, 1, 2, 2), api.ErrDouble},
	{list(4, 4), api.ErrDouble},
	{list(6, 6), api.ErrMissing},
	{list(1, 1, 6), api.ErrDouble},
	{list(1, 6, 6), api.ErrMissing},
	{list(0, 1, 0, 1, 0), api.ErrLarge},
	{list(9, 9, 9, 9, 9), api.ErrLarge},
}

// P2.1, P2.2, P2.6: the errors of surfaces, in their order.
func TestSurfaceErrors(t *testing.T) {
	x := example(0)
	for _, c := range surfaceErrors {
		p, e := image.ImageAt(box(), api.HallSetting{}, x.From, c.surfaces)
		wantErrno(t, "ImageAt", e, c.want)
		q, e := image.PathOf(box(), api.HallSetting{}, x, c.surfaces)
		if c.want != api.OK || e != api.ErrNone { // whether there is a path is not asked here
			wantErrno(t, "PathOf", e, c.want)
		}
		s, e := image.FormatWalk(box(), c.surfaces)
		wantErrno(t, "FormatWalk", e, c.want)
		if c.want != api.OK && (p != api.Place{} || !isNoPath(q) || s != "") {
			t.Errorf("%v: %v, %v, %q", c.surfaces, p, q, s)
		}
	}
	_, e := image.ImageAt(sheltered(), heights(0), x.From, list(6))
	wantErrno(t, "a canopy", e, api.OK)
	_, e = image.ImageAt(sheltered(), heights(0), x.From, list(7))
	wantErrno(t, "behind the canopies", e, api.ErrMissing)
}

// P2.1: the last image of a source.
func TestImageAt(t *testing.T) {
	source := place(300, 700, 150)
	for _, c := range []struct {
		name     string
		h        api.Hall
		s        api.HallSetting
		from     api.Place
		surfaces []int
		want     api.Place
	}{
		{"none", box(), api.HallSetting{}, source, nil, source},
		{"a wall", box(), api.HallSetting{}, source, list(1), place(1700, 700, 150)},
		{"a wall behind a curtain", box(), api.HallSetting{Drawn: list(1)}, source, list(1), place(1700, 700, 150)},
		{"the floor", box(), api.HallSetting{}, source, list(4), place(300, 700, -150)},
		{"the ceiling", box(), api.HallSetting{}, source, list(5), place(300, 700, 1050)},
		{"two walls", box(), api.HallSetting{}, source, list(1, 3), place(-1700, 700, 150)},
		{"the other way round", box(), api.HallSetting{}, source, list(3, 1), place(2300, 700, 150)},
		{"four", box(), api.HallSetting{}, source, list(1, 4, 2, 5), place(1700, 3300, 1350)},
		{"one wall three times", box(), api.HallSetting{}, source, list(1, 3, 1, 3), place(-3700, 700, 150)},
		{"the canopy", sheltered(), heights(0), source, list(6), place(300, 700, 650)},
		{"the canopy at 500", sheltered(), heights(1), source, list(6), place(300, 700, 850)},
		{"the canopy from above", sheltered(), heights(0), place(300, 700, 550), list(6), place(300, 700, 250)},
		{"in the canopy", sheltered(), heights(0), place(300, 700, 400), list(6), place(300, 700, 400)},
		{"X less Y", plans()["wedge"], api.HallSetting{}, place(9, 10, 2), list(2), place(14, 5, 2)},
		{"X and Y", plans()["wedge"], api.HallSetting{}, place(9, 10, 2), list(4), place(26, 27, 2)},
		{"both diagonals", plans()["wedge"], api.HallSetting{}, place(9, 10, 2), list(2, 4), place(31, 22, 2)},
		{"far", plans()["great"], api.HallSetting{}, place(-4999, -4999, 1), list(1, 4, 1, 4), place(-44999, -4999, 1)},
		{"far in both", plans()["great"], api.HallSetting{}, place(4999, -4999, 1), list(4, 1, 4, 0), place(-34999, -5001, 1)},
	} {
		if p, e := image.ImageAt(c.h, c.s, c.from, c.surfaces); p != c.want || e != api.OK {
			t.Errorf("%s: %v, %d, want %v", c.name, p, e, c.want)
		}
	}
}

// P2.1: the errors of ImageAt's place, ahead of those of its surfaces.
func TestImageErrors(t *testing.T) {
	for _, c := range []struct {
		at   api.Place
		want api.Errno
	}{
		{place(5001, 1, 1), api.ErrRange},
		{place(1, leastInt, 1), api.ErrRange},
		{place(1, 1, -5001), api.ErrRange},
		{place(0, 1, 1), api.ErrBreak},
		{place(1, 1, 0), api.ErrBreak},
		{place(1, 1, 600), api.ErrBreak},
		{place(-1, 1, 1), api.ErrBreak},
	} {
		for _, surfaces := range [][]int{nil, list(9)} {
			if p, e := image.ImageAt(box(), api.HallSetting{}, c.at, surfaces); p != (api.Place{}) || e != c.want {
				t.Errorf("%v by %v: %v, %d", c.at, surfaces, p, e)
			}
		}
	}
}
