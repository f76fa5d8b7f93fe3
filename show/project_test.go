package show_test

import (
	"math/rand"
	"testing"

	"shoebox/api"
	"shoebox/show"
)

// wrongProjects is projects that are wrong, the number of the first wrong scene or cue, and its error.
func wrongProjects() []struct {
	p     api.ShowProject
	n     int
	errno api.Errno
} {
	a, b := scene("a", 1), scene("b", 2)
	ab := project(a, b)
	return []struct {
		p     api.ShowProject
		n     int
		errno api.Errno
	}{
		{project(numbered(0, 21)...), 0, api.ErrLarge},
		{project(repeated(21, scene("", -1))...), 0, api.ErrLarge},
		{project(scene("")), 0, api.ErrName},
		{project(a, scene("1")), 1, api.ErrName},
		{project(a, b, scene("abcdefghijklm", 1)), 2, api.ErrName},
		{project(scene("a b", 1)), 0, api.ErrName},
		{project(a, scene("a")), 1, api.ErrOrder},
		{project(a, b, scene("a", 1)), 2, api.ErrOrder},
		{project(a, scene("Z")), 1, api.ErrOrder},
		{project(a, scene("b", 1, 2)), 1, api.ErrClash},
		{project(scene("a", 1, 2), scene("b", 1, 2), b), 2, api.ErrOrder},
		{project(scene("a", 1, 2), b), 1, api.ErrClash},
		{cued(project(a, scene("b", 1, 2)), repeated(41, cue(0, "", -1))...), 1, api.ErrClash},
		{cued(ab, cuesTo("a", 1, 41)...), 0, api.ErrLarge},
		{cued(ab, repeated(41, cue(0, "", -1))...), 0, api.ErrLarge},
		{cued(ab, cue(0, "c", -1)), 0, api.ErrRange},
		{cued(ab, cue(1, "a", 0), cue(1000, "c", -1)), 1, api.ErrRange},
		{cued(ab, cue(-1, "a", 0)), 0, api.ErrRange},
		{cued(ab, cue(leastInt, "a", 0)), 0, api.ErrRange},
		{cued(ab, cue(greatestInt, "a", 0)), 0, api.ErrRange},
		{cued(ab, cue(2, "a", 0), cue(2, "c", -1)), 1, api.ErrOrder},
		{cued(ab, cue(2, "a", 0), cue(5, "b", 0), cue(4, "a", 0)), 2, api.ErrOrder},
		{cued(ab, cue(2, "a", 0), cue(0, "c", -1)), 1, api.ErrRange},
		{cued(ab, cue(2, "c", -1)), 0, api.ErrMissing},
		{cued(ab, cue(2, "a", 0), cue(3, "A", 0)), 1, api.ErrMissing},
		{cued(project(), cue(1, "a", 0)), 0, api.ErrMissing},
		{cued(ab, cue(2, "a", -1), cue(1, "c", 0)), 0, api.ErrRange},
		{cued(ab, cue(2, "a", 0), cue(3, "b", 1001)), 1, api.ErrRange},
		{cued(ab, cue(2, "b", leastInt)), 0, api.ErrRange},
		{cued(ab, cue(2, "b", greatestInt)), 0, api.ErrRange},
	}
}

// wantWrongProject tests that all functions with projects tell a wrong one.
func wantWrongProject(t *testing.T, p api.ShowProject, number int, want api.Errno) {
	t.Helper()
	n, e := show.CheckProject(p)
	wantSame(t, "CheckProject of "+textOf(p), n, e, number, want)
	right, bad := project(scene("a", 1)), project(scene("", 1, 2))
	for _, c := range [][2]api.ShowProject{{p, right}, {right, p}, {p, bad}} {
		l, e := show.Differences(c[0], c[1])
		wantTexts(t, "Differences", l, e, nil, want)
	}
	clashing := project(scene("a", 1, 2))
	for _, c := range [][3]api.ShowProject{{p, right, clashing}, {right, p, clashing}, {right, clashing, p}, {p, bad, bad}, {right, p, bad}} {
		m, l, e := show.Merged(c[0], c[1], c[2])
		wantWrong(t, "Merged", m, e, want)
		wantTexts(t, "its conflicts", l, e, nil, want)
	}
	h := []api.ShowVersion{{Project: right}, {Parents: list(0), Project: p}}
	n, e = show.CheckHistory(h)
	wantSame(t, "CheckHistory", n, e, 1, want)
}

// P10.3: right and wrong projects, and the order of errors.
func TestCheckProject(t *testing.T) {
	for _, p := range []api.ShowProject{
		{}, project(), cued(project(scene("a", 0)), cues()...),
		project(scene("Z", 1), scene("a", 2), scene("a-", 3), scene("a1", 4), scene("aa", 5)),
		project(scene("abcdefghijkl", 0, 1000, 0, 1000, 0, 1000, 0, 1000)),
		cued(project(numbered(0, 20)...), cuesTo("ab", 960, 40)...),
		cued(project(scene("a", 1), scene("b", 2)), cue(1, "b", 0), cue(2, "a", 1000), cue(999, "b", 5)),
	} {
		n, e := show.CheckProject(p)
		wantSame(t, "CheckProject of "+textOf(p), n, e, 0, api.OK)
	}
	for _, c := range wrongProjects() {
		wantWrongProject(t, c.p, c.n, c.errno)
	}
	for _, c := range wrongLevels() {
		wantWrongProject(t, project(scene("a", c.levels...)), 0, c.errno)
		wantWrongProject(t, project(scene("a", 1, 2), scene("b", c.levels...), scene("")), 1, c.errno)
	}
}

// P10.3: differences are told in their order.
func TestDifferences(t *testing.T) {
	ab := cued(project(scene("a", 1), scene("b", 2)), cue(2, "a", 0), cue(10, "b", 0))
	for _, c := range []struct {
		name string
		a, b api.ShowProject
		want []string
	}{
		{"nothing", project(), project(), nil},
		{"one project", ab, ab, nil},
		{"all of one", ab, project(), []string{"scene a", "scene b", "cue 2", "cue 10"}},
		{"all of the other one", project(), ab, []string{"scene a", "scene b", "cue 2", "cue 10"}},
		{"a level", ab, cued(project(scene("a", 1), scene("b", 3)), ab.Cues...), []string{"scene b"}},
		{"more levels", project(scene("a", 1)), project(scene("a", 1, 1)), []string{"scene a"}},
		{"the scene of a cue", ab, cued(project(ab.Scenes...), cue(2, "b", 0), cue(10, "b", 0)), []string{"cue 2"}},
		{"the steps of a cue", ab, cued(project(ab.Scenes...), cue(2, "a", 0), cue(10, "b", 1)), []string{"cue 10"}},
		{"the number of a cue", ab, cued(project(ab.Scenes...), cue(3, "a", 0), cue(10, "b", 0)), []string{"cue 2", "cue 3"}},
		{"names", project(scene("Z", 1), scene("b", 1)), project(scene("a", 1), scene("b-", 1)), []string{"scene Z", "scene a", "scene b", "scene b-"}},
		{"a scene and a cue", ab, cued(project(scene("a", 5), scene("b", 2)), cue(10, "b", 0)), []string{"scene a", "cue 2"}},
	} {
		l, e := show.Differences(c.a, c.b)
		wantTexts(t, "Differences: "+c.name, l, e, c.want, api.OK)
		l, e = show.Differences(c.b, c.a)
		wantTexts(t, "Differences, turned round: "+c.name, l, e, c.want, api.OK)
	}
}

// P10.3: the examples, and each way in which three projects can have an item.
func TestMerged(t *testing.T) {
	a := func(level int) api.ShowProject { return project(scene("a", level)) }
	one := cue(1, "a", 0)
	for _, c := range []struct {
		name      string
		old, a, b api.ShowProject
		want      api.ShowProject
		conflicts []string
	}{
		{"nothing", project(), project(), project(), project(), nil},
		{"the first example", a(5), a(6), project(scene("a", 5), scene("b", 1)), project(scene("a", 6), scene("b", 1)), nil},
		{"the second example", a(5), a(6), a(7), a(6), []string{"scene a"}},
		{"the third example", a(5), cued(a(5), one), project(), project(), []string{"cue 1"}},
		{"both alike", a(5), a(6), a(6), a(6), nil},
		{"both new", project(), a(6), a(6), a(6), nil},
		{"both new, not alike", project(), a(6), a(7), a(6), []string{"scene a"}},
		{"new in the first one", project(), a(6), project(), a(6), nil},
		{"new in the second one", project(), project(), a(6), a(6), nil},
		{"gone from both", a(5), project(), project(), project(), nil},
		{"gone from the first one", a(5), project(), a(5), project(), nil},
		{"gone from the second one", a(5), a(5), project(), project(), nil},
		{"gone from the first one, changed in the second one", a(5), project(), a(6), project(), []string{"scene a"}},
		{"gone from the second one, changed in the first one", a(5), a(6), project(), a(6), []string{"scene a"}},
		{"a cue that both changed", cued(a(5), one), cued(a(5), cue(1, "a", 2)), cued(a(5), cue(1, "a", 3)), cued(a(5), cue(1, "a", 2)), []string{"cue 1"}},
		{"a cue of the second one, whose scene is gone from the first one", a(5), project(), cued(a(5), one), project(), []string{"cue 1"}},
		{"a conflict, left out as well: told once", cued(project(scene("a", 1), scene("b", 1)), one),
			cued(project(scene("b", 1)), cue(1, "b", 0)), cued(a(1), cue(1, "a", 3)), cued(project(), cues()...), []string{"cue 1"}},
		{"an old cue stays away", cued(a(5), one), project(), cued(a(5), one), project(), nil},
		{"a scene and cues, in their order", project(), cued(project(scene("b", 1), scene("c", 1)), cue(2, "b", 0), cue(10, "c", 0)),
			cued(project(scene("B", 2), scene("b", 2)), cue(2, "b", 1), cue(3, "b", 0), cue(10, "b", 0)),
			cued(project(scene("B", 2), scene("b", 1), scene("c", 1)), cue(2, "b", 0), cue(3, "b", 0), cue(10, "c", 0)), []string{"scene b", "cue 2", "cue 10"}},
		{"a scene that no cue uses", cued(a(5), one), a(5), cued(a(5), one), a(5), nil},
		{"one level, or two, where no other project has scenes", project(), project(scene("a", 1, 2)), project(), project(scene("a", 1, 2)), nil},
	} {
		p, l, e := show.Merged(c.old, c.a, c.b)
		wantSame(t, "Merged: "+c.name, p, e, c.want, api.OK)
		wantTexts(t, "the conflicts: "+c.name, l, e, c.conflicts, api.OK)
	}
}

// P10.3: as many levels in all scenes, and room for all items.
func TestMergeErrors(t *testing.T) {
	one, two := project(scene("a", 1)), project(scene("a", 1, 2))
	wrong := func(name string, old, a, b api.ShowProject, want api.Errno) {
		t.Helper()
		p, l, e := show.Merged(old, a, b)
		wantWrong(t, name, p, e, want)
		wantTexts(t, name, l, e, nil, want)
	}
	fits := func(name string, old, a, b api.ShowProject) {
		t.Helper()
		p, l, e := show.Merged(old, a, b)
		want, conflicts := slowMerged(old, a, b)
		wantSame(t, name, p, e, want, api.OK)
		wantTexts(t, name, l, e, conflicts, api.OK)
	}
	wrong("levels of the old one", two, one, one, api.ErrClash)
	wrong("levels of the first one", one, two, one, api.ErrClash)
	wrong("levels of the second one", one, one, two, api.ErrClash)
	wrong("levels without an old one", project(), one, two, api.ErrClash)
	wrong("levels of scenes that go", two, one, project(), api.ErrClash)
	wrong("levels of the old one alone", two, project(), one, api.ErrClash)

	full := project(numbered(0, 20)...)
	fits("as many scenes as there may be", project(), project(numbered(0, 11)...), project(numbered(11, 9)...))
	wrong("a scene more", project(), project(numbered(0, 11)...), project(numbered(11, 10)...), api.ErrFull)
	wrong("all new", project(), full, project(numbered(20, 20)...), api.ErrFull)
	fits("one for another", full, project(numbered(0, 19)...), project(append(numbered(0, 20)[:19:19], scene("zz", 1))...))
	fits("other scenes for the old ones", full, project(numbered(20, 20)...), project())

	a := project(scene("a", 1), scene("b", 1))
	fits("as many cues as there may be", a, cued(a, cuesTo("a", 1, 20)...), cued(a, cuesTo("b", 21, 20)...))
	wrong("a cue more", a, cued(a, cuesTo("a", 1, 20)...), cued(a, cuesTo("b", 21, 21)...), api.ErrFull)
	wrong("scenes with the levels and a cue more", project(), cued(a, cuesTo("a", 1, 20)...), cued(one, cuesTo("a", 21, 21)...), api.ErrFull)
	fits("cues that are left out need no room", a, cued(project(a.Scenes[0]), cuesTo("a", 1, 20)...), cued(a, cuesTo("b", 21, 40)...))
	wrong("levels come first", project(), cued(two, cuesTo("a", 1, 40)...), cued(one, cuesTo("a", 41, 1)...), api.ErrClash)
}

// P10.3, P10.9: merges and differences follow their definitions; the consequences hold.
func TestMergesSlowly(t *testing.T) {
	r := rand.New(rand.NewSource(3))
	conflicting := 0
	for range 6000 {
		old := anyProject(r)
		a, b := near(r, old), near(r, old)
		if r.Intn(3) == 0 {
			b = anyProject(r)
		}
		p, l, e := show.Merged(old, a, b)
		want, conflicts := slowMerged(old, a, b)
		wantSame(t, "Merged", p, e, want, api.OK)
		wantTexts(t, "its conflicts", l, e, conflicts, api.OK)
		n, e := show.CheckProject(p)
		wantSame(t, "CheckProject", n, e, 0, api.OK)
		conflicting += min(len(l), 1)

		other, others, e := show.Merged(old, b, a)
		if len(l) == 0 {
			wantSame(t, "turned round", other, e, p, api.OK)
			wantTexts(t, "turned round", others, e, nil, api.OK)
		}
		for _, c := range [][2]api.ShowProject{{a, a}, {old, a}, {a, old}} {
			p, l, e := show.Merged(old, c[0], c[1])
			wantSame(t, "merged with itself or the old one", p, e, a, api.OK)
			wantTexts(t, "merged with itself or the old one", l, e, nil, api.OK)
		}
		d, e := show.Differences(a, b)
		wantTexts(t, "Differences", d, e, slowDifferences(a, b), api.OK)
		d, e = show.Differences(a, a)
		wantTexts(t, "Differences from itself", d, e, nil, api.OK)
	}
	if !(500 < conflicting && conflicting < 5000) {
		t.Errorf("%d merges with conflicts", conflicting)
	}
}
