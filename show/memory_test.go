package show_test

import (
	"math/rand"
	"slices"
	"strings"
	"testing"

	"shoebox/api"
	"shoebox/show"
)

// roomy is a list with room behind its end.
func roomy[T any](l ...T) []T { return slices.Grow(slices.Clone(l), 3) }

// behind is what lies behind the end of a list with room.
func behind[T any](l []T) []T { return l[len(l) : len(l)+3] }

func roomyScene(name string, levels ...int) api.ShowScene { return scene(name, roomy(levels...)...) }

// roomyProject is a project of which each list has room behind its end; behindProject is what lies there.
func roomyProject(level int) api.ShowProject {
	return api.ShowProject{
		Scenes: roomy(api.ShowScene{Name: "a", Levels: roomy(level, 2)}, api.ShowScene{Name: "c", Levels: roomy(3, 4)}),
		Cues:   roomy(cue(1, "a", level), cue(5, "c", 9)),
	}
}

func behindProject(p api.ShowProject) any {
	return []any{behind(p.Scenes), behind(p.Cues), behind(p.Scenes[0].Levels), behind(p.Scenes[1].Levels)}
}

func roomyMoves() []api.ShowMove {
	return roomy(api.ShowMove{Tick: 1, Levels: roomy(10, 20), Steps: 5}, api.ShowMove{Tick: 3, Levels: roomy(30, 40), Steps: 7})
}

func roomyState() api.ShowState {
	return api.ShowState{
		Count: 9, Sealed: 3, Tick: 4, Margin: 1000, Persons: roomy(api.ShowPerson{Name: "ann"}, api.ShowPerson{Name: "bob", Role: 2}),
		Project: roomyProject(1), Moves: roomyMoves(), Failed: roomy(2, 7),
	}
}

func behindState(s api.ShowState) any {
	return []any{behind(s.Persons), behindProject(s.Project), behind(s.Moves), behind(s.Moves[0].Levels), behind(s.Moves[1].Levels), behind(s.Failed)}
}

// fitting is a fact of each kind that fits behind the roomy state.
func fitting() []api.ShowFact {
	var l []api.ShowFact
	for kind, text := range []string{"cid guest", "b 5,6", "3 a 1", "5", "- -", "1 1", "x 0", "- - - - - -", "3 1", "2", "x", ""} {
		l = append(l, fact(5, "ann", kind, text))
	}
	return append(l, fact(5, "ann", api.FactScene, "a 9,9"), fact(5, "ann", api.FactCue, "1 c 7"), fact(5, "ann", api.FactFault, "0 0"), fact(5, "ann", api.FactRepair, "7"))
}

// R4: no function changes its arguments, or what lies behind their ends.
func TestArgumentsStay(t *testing.T) {
	p := []api.ShowProject{roomyProject(1), roomyProject(2), roomyProject(3), cued(roomyProject(1), roomy(cue(1, "a", 1))...)}
	p[3].Scenes = roomy(roomyScene("b", 1, 1), roomyScene("c", 3, 4))
	p[3].Cues = roomy(cue(2, "b", 1), cue(5, "c", 8))
	h := roomy(api.ShowVersion{Project: p[0]}, api.ShowVersion{Parents: roomy(0), Project: p[1]}, api.ShowVersion{Parents: roomy(0), Project: p[3]})
	s, l, m := roomyState(), roomy(evening()...), roomyMoves()
	x := fade(3, 1, roomy(1, 2), roomy(3, 4))
	q := api.ShowQuery{Kind: -1, To: 9}
	all := []any{p, h, behind(h), s, behindState(s), l, behind(l), m, behind(m), behind(m[0].Levels), x, behind(x.From), behind(x.To), behind(h[1].Parents)}
	for _, one := range p {
		all = append(all, behindProject(one))
	}
	before := textOf(all)
	show.FadeAt(x)
	show.CheckMoves(m)
	show.LevelsAt(m, 4)
	show.StillFrom(m)
	show.CheckHistory(h)
	for i := range p {
		show.CheckProject(p[i])
		for k := range p {
			show.Differences(p[i], p[k])
			show.Merged(p[i], p[k], p[3])
			show.Merged(p[0], p[i], p[k])
		}
	}
	for i := range h {
		show.BaseOf(h, i, 2)
		show.MergeIn(h, i, 1)
		show.MergeIn(h, i, 2)
	}
	for _, f := range fitting() {
		_, e := show.Apply(s, f)
		wantErrno(t, "Apply of "+textOf(f), e, api.OK)
	}
	show.Replay(l)
	show.Journal(l)
	show.Query(l, q)
	d := show.NewDesk()
	for _, f := range l {
		d.Add(f)
	}
	if after := textOf(all); after != before {
		t.Errorf("%s became %s", before, after)
	}
}

// wantApart tests that changing one result, and appending to each of its lists, changes no other one.
func wantApart[T any](t *testing.T, name string, find func() T, change func(x T)) {
	t.Helper()
	first := find()
	want := textOf(first)
	change(first)
	if textOf(first) == want {
		t.Errorf("%s: nothing has changed", name)
	}
	if got := textOf(find()); got != want {
		t.Errorf("%s: %s, want %s", name, got, want)
	}
}

func spoil(l []int) { l[0] += 77; _ = append(l, 78) }

// spoilProject changes each list of a project, and appends to it.
func spoilProject(p api.ShowProject) {
	for _, s := range p.Scenes {
		spoil(s.Levels)
	}
	p.Scenes[0].Name += "-"
	p.Cues[0].Steps += 77
	_, _ = append(p.Scenes, scene("x", 1)), append(p.Cues, cue(9, "x", 1))
}

// spoilState changes each list of a state, and appends to it.
func spoilState(s api.ShowState) {
	spoilProject(s.Project)
	for _, m := range s.Moves {
		spoil(m.Levels)
	}
	s.Moves[0].Tick += 77
	s.Persons[0].Role += 77
	if len(s.Failed) > 0 {
		spoil(s.Failed)
	}
	_, _ = append(s.Moves, move(9, 9, 9)), append(s.Persons, api.ShowPerson{Name: "x"})
}

// wantUntouched tests that an argument stays when a result is changed, and a result when the argument is.
func wantUntouched[A, R any](t *testing.T, name string, argument A, find func(A) R, spoilResult func(R), spoilArgument func(A)) {
	t.Helper()
	before := textOf(argument)
	spoilResult(find(argument))
	wantSame(t, name+": the argument", textOf(argument), api.OK, before, api.OK)
	result := find(argument)
	before = textOf(result)
	spoilArgument(argument)
	wantSame(t, name+": the result", textOf(result), api.OK, before, api.OK)
}

// R4: results are new memory, and share none with arguments.
func TestResultsAreNew(t *testing.T) {
	moved := func(tick int) func(l []api.ShowMove) []int {
		return func(l []api.ShowMove) []int { levels, _ := show.LevelsAt(l, tick); return levels }
	}
	spoilMoves := func(l []api.ShowMove) { spoil(l[0].Levels); spoil(l[1].Levels) }
	for _, tick := range list(0, 1, 2, 3, 5, 99) {
		wantUntouched(t, "LevelsAt", roomyMoves(), moved(tick), spoil, spoilMoves)
	}
	for _, step := range list(0, 1, 3) {
		faded := func(x api.ShowFade) []int { l, _ := show.FadeAt(x); return l }
		wantUntouched(t, "FadeAt", fade(3, step, roomy(1, 2), roomy(3, 4)), faded, spoil, func(x api.ShowFade) { spoil(x.From); spoil(x.To) })
	}
	merged := func(l [3]api.ShowProject) api.ShowProject { p, _, _ := show.Merged(l[0], l[1], l[2]); return p }
	spoilAll := func(l [3]api.ShowProject) {
		for _, p := range l {
			spoilProject(p)
		}
	}
	for _, levels := range [][3]int{{1, 1, 1}, {1, 1, 2}, {1, 2, 1}, {1, 2, 3}} {
		wantUntouched(t, "Merged", [3]api.ShowProject{roomyProject(levels[0]), roomyProject(levels[1]), roomyProject(levels[2])}, merged, spoilProject, spoilAll)
	}
	same := roomyProject(1)
	wantUntouched(t, "Merged of one", [3]api.ShowProject{same, same, same}, merged, spoilProject, func(l [3]api.ShowProject) { spoilProject(l[0]) })
	h := []api.ShowVersion{{Project: roomyProject(1)}, {Parents: roomy(0), Project: roomyProject(2)}, {Parents: roomy(0), Project: roomyProject(3)}}
	mergedIn := func(h []api.ShowVersion) api.ShowVersion { v, _, _ := show.MergeIn(h, 1, 2); return v }
	spoilVersion := func(v api.ShowVersion) { spoil(v.Parents); spoilProject(v.Project) }
	wantUntouched(t, "MergeIn", h, mergedIn, spoilVersion, func(h []api.ShowVersion) { spoilVersion(h[1]); spoilVersion(h[2]) })

	for _, f := range fitting() {
		applied := func(s api.ShowState) api.ShowState { s, _ = show.Apply(s, f); return s }
		wantUntouched(t, "Apply of "+textOf(f), roomyState(), applied, spoilState, spoilState)
	}
	wantApart(t, "Replay", func() api.ShowState { s, _, _ := show.Replay(evening()); return s }, spoilState)
	wantApart(t, "Recover", func() []api.ShowFact { l, _, _ := show.Recover(slowJournal(evening())); return l }, func(l []api.ShowFact) { l[0].Tick = 77 })
	wantApart(t, "Query", func() []int { l, _ := show.Query(evening(), api.ShowQuery{Kind: -1, To: 9}); return l }, spoil)
	wantApart(t, "Differences", func() []string { l, _ := show.Differences(roomyProject(1), roomyProject(2)); return l }, func(l []string) { l[0] = "x" })
}

// R4: a move of a state shares no levels with its scene, nor with another move of the same cue.
func TestMovesAreApart(t *testing.T) {
	s := stateOf(t, append(evening(), fact(5, "ann", api.FactGo, "1")))
	s.Project.Scenes[0].Levels[0] = 1
	s.Moves[0].Levels[0] = 2
	wantSame(t, "the other move", s.Moves[1].Levels, api.OK, list(100), api.OK)
	_ = append(s.Moves[0].Levels, 3)
	_ = append(s.Project.Scenes[0].Levels, 4)
	wantSame(t, "the first move", s.Moves[0].Levels, api.OK, list(2), api.OK)
}

// R4: what a desk gives is not what it keeps.
func TestDesksAreApart(t *testing.T) {
	l := roomy(evening()...)
	d := deskOf(t, l)
	l[0].Who = "eve"
	kept := d.Facts()
	kept[1].Text = "x"
	_ = append(kept[:2], founded())
	spoilState(d.State())
	wantFacts(t, d, evening())
	wantErrno(t, "Undo", d.Undo(), api.OK)
	wantErrno(t, "Add", d.Add(fact(8, "ann", api.FactNote, "x")), api.OK)
	wantSame(t, "Facts from before", kept[4], api.OK, evening()[4], api.OK)
}

// P1: no kind of argument stops a function, and beside an error there is nothing.
func TestStrangeArguments(t *testing.T) {
	r := rand.New(rand.NewSource(9))
	strange := func() int { return anyOf(r, -1, 0, 1, 2, 24, 40, 1000, leastInt, greatestInt) }
	numbers := func() []int {
		var l []int
		for range r.Intn(4) {
			l = append(l, strange())
		}
		return l
	}
	name := func() string { return anyOf(r, "", "a", "b", "ann", "-", " ", "\xff", "\n") }
	strangeProject := func() api.ShowProject {
		p := anyProject(r)
		for range r.Intn(3) {
			p.Scenes = append(p.Scenes, scene(name(), numbers()...))
			p.Cues = append(p.Cues, cue(strange(), name(), strange()))
		}
		return p
	}
	strangeMoves := func() []api.ShowMove {
		l := anyMoves(r, 2, 3)
		for range r.Intn(3) {
			l = append(l, move(strange(), strange(), numbers()...))
		}
		return l
	}
	strangeFact := func() api.ShowFact {
		text := anyOf(r, name(), name()+" "+name(), anyText(r, r.Intn(kinds)), strings.Repeat(name(), 500))
		return fact(strange(), name(), strange()%20, text)
	}
	for range 4000 {
		x := fade(strange(), strange(), numbers(), numbers())
		levels, e := show.FadeAt(x)
		wantNothing(t, "FadeAt", levels, e)
		l := strangeMoves()
		show.CheckMoves(l)
		levels, e = show.LevelsAt(l, strange())
		wantNothing(t, "LevelsAt", levels, e)
		n, e := show.StillFrom(l)
		wantNothing(t, "StillFrom", n, e)
		p, conflicts, e := show.Merged(strangeProject(), strangeProject(), strangeProject())
		wantNothing(t, "Merged", p, e)
		wantNothing(t, "Merged", conflicts, e)
		h := anyHistory(r, 4)
		h[r.Intn(4)] = api.ShowVersion{Parents: numbers(), Project: strangeProject()}
		v, _, e := show.MergeIn(h, strange(), strange())
		wantNothing(t, "MergeIn", v, e)
		f := strangeFact()
		back, e := show.ParseFact(show.FormatFact(f))
		wantNothing(t, "ParseFact", back, e)
		s := api.ShowState{Count: strange(), Sealed: strange(), Tick: strange(), Project: strangeProject(), Moves: strangeMoves(), Margin: strange(), Failed: numbers()}
		s, e = show.Apply(s, f)
		wantNothing(t, "Apply", s, e)
		found, e := show.Query(facts(founded(), f), api.ShowQuery{Who: name(), Kind: strange(), From: strange(), To: strange()})
		wantNothing(t, "Query", found, e)
	}
}

// wantNothing tests that there is nothing beside an error.
func wantNothing[T any](t *testing.T, name string, result T, e api.Errno) {
	t.Helper()
	if e != api.OK {
		wantWrong(t, name, result, e, e)
	}
}
