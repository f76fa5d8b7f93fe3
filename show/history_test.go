package show_test

import (
	"math/rand"
	"testing"

	"shoebox/api"
	"shoebox/show"
)

// history is versions with these parents; the project of a version has a scene with its number as a level.
func history(parents ...[]int) []api.ShowVersion {
	var h []api.ShowVersion
	for i, l := range parents {
		h = append(h, api.ShowVersion{Parents: l, Project: project(scene("a", i))})
	}
	return h
}

// forked is the history of the fourth example.
func forked() []api.ShowVersion { return history(nil, list(0), list(0), list(1, 2)) }

// line is a history of so many versions, each one from the one before.
func line(count int) []api.ShowVersion {
	parents := rows(nil)
	for i := 1; i < count; i++ {
		parents = append(parents, list(i-1))
	}
	return history(parents...)
}

// P10.4: right and wrong histories, the order of errors, and that all functions with histories tell them.
func TestCheckHistory(t *testing.T) {
	for _, h := range [][]api.ShowVersion{
		nil, history(nil), history(list()), forked(), line(20),
		history(nil, list(0), list(0, 1), list(0, 2), list(2, 3)),
	} {
		n, e := show.CheckHistory(h)
		wantSame(t, "CheckHistory of "+textOf(h), n, e, 0, api.OK)
	}
	bad := forked()
	bad[3].Project = project(scene("", 1))
	both := forked()
	both[2].Project, both[2].Parents = bad[3].Project, list(2)
	for _, c := range []struct {
		h    []api.ShowVersion
		n    int
		want api.Errno
	}{
		{line(21), 0, api.ErrLarge},
		{history(make([][]int, 21)...), 0, api.ErrLarge},
		{history(list(0)), 0, api.ErrShape},
		{history(list(-1, 7)), 0, api.ErrShape},
		{history(nil, nil), 1, api.ErrShape},
		{history(nil, list(0), list()), 2, api.ErrShape},
		{history(nil, list(0), list(0), list(0, 1, 2)), 3, api.ErrShape},
		{history(nil, list(0), list(9, 8, 7)), 2, api.ErrShape},
		{history(nil, list(1)), 1, api.ErrMissing},
		{history(nil, list(0), list(-1)), 2, api.ErrMissing},
		{history(nil, list(0), list(3), list(0)), 2, api.ErrMissing},
		{history(nil, list(0), list(1, 2)), 2, api.ErrMissing},
		{history(nil, list(0), list(1, -1)), 2, api.ErrMissing},
		{history(nil, list(greatestInt)), 1, api.ErrMissing},
		{history(nil, list(leastInt)), 1, api.ErrMissing},
		{history(nil, list(0, 0)), 1, api.ErrOrder},
		{history(nil, list(0), list(1, 0)), 2, api.ErrOrder},
		{history(nil, list(0), list(1, 1)), 2, api.ErrOrder},
		{bad, 3, api.ErrName},
		{both, 2, api.ErrMissing},
		{append(line(3), api.ShowVersion{Parents: list(2), Project: project(scene("a", 1001))}, api.ShowVersion{}), 3, api.ErrRange},
	} {
		n, e := show.CheckHistory(c.h)
		wantSame(t, "CheckHistory of "+textOf(c.h), n, e, c.n, c.want)
		for _, pair := range [][2]int{{0, 1}, {-1, 99}, {0, 0}} {
			n, e := show.BaseOf(c.h, pair[0], pair[1])
			wantWrong(t, "BaseOf", n, e, c.want)
			v, l, e := show.MergeIn(c.h, pair[0], pair[1])
			wantWrong(t, "MergeIn", v, e, c.want)
			wantTexts(t, "MergeIn", l, e, nil, c.want)
		}
	}
}

// P10.4: versions that are not there.
func TestMissingVersions(t *testing.T) {
	for _, h := range [][]api.ShowVersion{nil, history(nil), forked()} {
		for _, n := range list(-1, len(h), greatestInt, leastInt) {
			for _, pair := range [][2]int{{n, 0}, {0, n}, {n, n}} {
				base, e := show.BaseOf(h, pair[0], pair[1])
				wantWrong(t, "BaseOf", base, e, api.ErrMissing)
				v, l, e := show.MergeIn(h, pair[0], pair[1])
				wantWrong(t, "MergeIn", v, e, api.ErrMissing)
				wantTexts(t, "MergeIn", l, e, nil, api.ErrMissing)
			}
		}
	}
}

// P10.4: the bases of the example, and of others.
func TestBaseOf(t *testing.T) {
	criss := history(nil, list(0), list(0), list(1, 2), list(1, 2), list(3), list(4))
	for _, c := range []struct {
		h          []api.ShowVersion
		a, b, want int
	}{
		{forked(), 1, 2, 0},
		{forked(), 3, 2, 2},
		{forked(), 3, 1, 1},
		{forked(), 3, 0, 0},
		{forked(), 3, 3, 3},
		{forked(), 0, 0, 0},
		{line(20), 19, 7, 7},
		{criss, 3, 4, 2},
		{criss, 5, 6, 2},
		{criss, 5, 3, 3},
		{history(nil, list(0), list(1), list(0)), 2, 3, 0},
	} {
		for _, pair := range [][2]int{{c.a, c.b}, {c.b, c.a}} {
			n, e := show.BaseOf(c.h, pair[0], pair[1])
			wantSame(t, "BaseOf "+textOf(pair), n, e, c.want, api.OK)
		}
	}
}

// P10.4: a merged version, its parents, its conflicts, and its errors.
func TestMergeIn(t *testing.T) {
	a := func(level int) api.ShowScene { return scene("a", level) }
	h := []api.ShowVersion{
		{Project: project(a(5))},
		{Parents: list(0), Project: project(a(6))},
		{Parents: list(0), Project: project(a(5), scene("b", 1))},
		{Parents: list(1), Project: project(a(7))},
	}
	for _, c := range []struct {
		a, b      int
		want      api.ShowVersion
		conflicts []string
	}{
		{1, 2, api.ShowVersion{Parents: list(1, 2), Project: project(a(6), scene("b", 1))}, nil},
		{2, 1, api.ShowVersion{Parents: list(1, 2), Project: project(a(6), scene("b", 1))}, nil},
		{3, 1, api.ShowVersion{Parents: list(1, 3), Project: project(a(7))}, nil},
		{0, 2, api.ShowVersion{Parents: list(0, 2), Project: h[2].Project}, nil},
	} {
		v, l, e := show.MergeIn(h, c.a, c.b)
		wantSame(t, "MergeIn", v, e, c.want, api.OK)
		wantTexts(t, "MergeIn", l, e, c.conflicts, api.OK)
	}
	// the first one that is named stays, whichever has the greater number
	h[2].Project = project(a(9))
	for _, c := range [][3]int{{1, 2, 6}, {2, 1, 9}, {3, 2, 7}, {2, 3, 9}} {
		v, l, e := show.MergeIn(h, c[0], c[1])
		want := api.ShowVersion{Parents: list(min(c[0], c[1]), max(c[0], c[1])), Project: project(a(c[2]))}
		wantSame(t, "MergeIn with a conflict", v, e, want, api.OK)
		wantTexts(t, "MergeIn with a conflict", l, e, []string{"scene a"}, api.OK)
	}
	wrong := func(h []api.ShowVersion, a, b int, want api.Errno) {
		t.Helper()
		v, l, e := show.MergeIn(h, a, b)
		wantWrong(t, "MergeIn", v, e, want)
		wantTexts(t, "MergeIn", l, e, nil, want)
	}
	for i := range h {
		wrong(h, i, i, api.ErrDouble)
	}
	h[1].Project = project(scene("a", 1, 2))
	wrong(h, 1, 2, api.ErrClash)
	wrong(h, 1, 1, api.ErrDouble)
	h[0].Project, h[1].Project, h[2].Project = project(), project(numbered(0, 20)...), project(scene("zz", 1))
	wrong(h, 1, 2, api.ErrFull)
}

// P10.4, P10.9: bases and merges follow their definitions; the base of a version and one of its ancestors is this.
func TestHistoriesSlowly(t *testing.T) {
	r := rand.New(rand.NewSource(4))
	for range 300 {
		h := anyHistory(r, between(r, 1, 9))
		for a := range h {
			for b := range h {
				want := slowBase(h, a, b)
				n, e := show.BaseOf(h, a, b)
				wantSame(t, "BaseOf", n, e, want, api.OK)
				if slowAncestors(h, a)[b] {
					wantSame(t, "the base of an ancestor", n, e, b, api.OK)
				}
				v, l, e := show.MergeIn(h, a, b)
				if a == b {
					wantWrong(t, "MergeIn", v, e, api.ErrDouble)
					continue
				}
				p, conflicts := slowMerged(h[want].Project, h[a].Project, h[b].Project)
				wantSame(t, "MergeIn", v, e, api.ShowVersion{Parents: list(min(a, b), max(a, b)), Project: p}, api.OK)
				wantTexts(t, "MergeIn", l, e, conflicts, api.OK)
				k, e := show.CheckHistory(append(h[:len(h):len(h)], v))
				wantSame(t, "with the merged version", k, e, 0, api.OK)
			}
		}
	}
}
