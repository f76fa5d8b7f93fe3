package show_test

import (
	"math/rand"
	"slices"
	"strconv"
	"strings"
	"testing"

	"shoebox/api"
	"shoebox/show"
)

// wantApplied tests the state behind a fact, or its error, beside which there is nothing.
func wantApplied(t *testing.T, name string, s api.ShowState, f api.ShowFact, want api.ShowState, wrong api.Errno) {
	t.Helper()
	got, e := show.Apply(s, f)
	if wrong != api.OK {
		want = api.ShowState{}
	}
	wantSame(t, name, got, e, want, wrong)
}

// stateOf is the state of a log.
func stateOf(t *testing.T, l []api.ShowFact) api.ShowState {
	t.Helper()
	s, n, e := show.Replay(l)
	wantSame(t, "Replay", n, e, 0, api.OK)
	return s
}

// notes is so many notes of the director at a tick.
func notes(tick, count int) []api.ShowFact {
	return repeated(count, fact(tick, "ann", api.FactNote, "x"))
}

// P10.6: the log of the examples.
func TestReplay(t *testing.T) {
	wantSame(t, "the evening", stateOf(t, evening()), api.OK, api.ShowState{
		Count: 5, Tick: 4, Persons: []api.ShowPerson{{Name: "ann", Role: api.RoleDirector}},
		Project: cued(project(scene("a", 100)), cue(1, "a", 4)), Moves: moves(move(4, 4, 100)), Margin: 1500,
	}, api.OK)
	for _, l := range [][]api.ShowFact{nil, facts()} {
		wantSame(t, "nothing", stateOf(t, l), api.OK, api.ShowState{Margin: -1}, api.OK)
	}
	early := slices.Delete(evening(), 3, 4)
	for _, c := range []struct {
		name string
		l    []api.ShowFact
		n    int
		want api.Errno
	}{
		{"without a margin", early, 3, api.ErrUnstable},
		{"a stranger", facts(fact(0, "bob", api.FactPerson, "ann director")), 0, api.ErrState},
		{"nobody", facts(founded(), fact(1, "bob", api.FactNote, "x")), 1, api.ErrMissing},
		{"a wrong fact", facts(founded(), fact(1, "ann", 12, "x"), fact(0, "", -1, "")), 1, api.ErrKind},
		{"a fact more", append(facts(founded()), notes(1, 200)...), 0, api.ErrLarge},
		{"wrong facts, and one more", repeated(201, fact(-1, "", -1, "")), 0, api.ErrLarge},
	} {
		s, n, e := show.Replay(c.l)
		wantWrong(t, "Replay: "+c.name, s, e, c.want)
		wantSame(t, "its number: "+c.name, n, e, c.n, c.want)
		text, e := show.Journal(c.l)
		wantWrong(t, "Journal: "+c.name, text, e, c.want)
		found, e := show.Query(c.l, api.ShowQuery{Who: "1", Kind: 99, From: -1})
		wantWrong(t, "Query: "+c.name, found, e, c.want)
	}
	full := append(facts(founded()), notes(1, 199)...)
	s := stateOf(t, full)
	wantSame(t, "as many as there may be", s.Count, api.OK, 200, api.OK)
	wantApplied(t, "a fact more", s, fact(1, "ann", api.FactNote, "x"), s, api.ErrFull)
	wantApplied(t, "a wrong fact more", s, fact(-1, "", -1, ""), s, api.ErrFull)
}

// P10.6: what each kind of facts changes.
func TestApply(t *testing.T) {
	base := stateOf(t, evening())
	base.Failed = list(2, 5)
	for _, c := range []struct {
		kind   int
		text   string
		change func(s *api.ShowState)
	}{
		{api.FactPerson, "Bob guest", func(s *api.ShowState) {
			s.Persons = append(s.Persons, api.ShowPerson{Name: "Bob", Role: api.RoleGuest})
		}},
		{api.FactPerson, "abc engineer", func(s *api.ShowState) {
			s.Persons = append(s.Persons, api.ShowPerson{Name: "abc", Role: api.RoleEngineer})
		}},
		{api.FactPerson, "abc operator", func(s *api.ShowState) {
			s.Persons = append(s.Persons, api.ShowPerson{Name: "abc", Role: api.RoleOperator})
		}},
		{api.FactPerson, "abc director", func(s *api.ShowState) {
			s.Persons = append(s.Persons, api.ShowPerson{Name: "abc", Role: api.RoleDirector})
		}},
		{api.FactScene, "a 7", func(s *api.ShowState) { s.Project.Scenes[0].Levels = list(7) }},
		{api.FactScene, "a 7,8", func(s *api.ShowState) { s.Project.Scenes[0].Levels = list(7, 8) }},
		{api.FactScene, "b 7", func(s *api.ShowState) { s.Project.Scenes = append(s.Project.Scenes, scene("b", 7)) }},
		{api.FactScene, "A 7", func(s *api.ShowState) { s.Project.Scenes = slices.Insert(s.Project.Scenes, 0, scene("A", 7)) }},
		{api.FactCue, "1 a 0", func(s *api.ShowState) { s.Project.Cues[0].Steps = 0 }},
		{api.FactCue, "2 a 9", func(s *api.ShowState) { s.Project.Cues = append(s.Project.Cues, cue(2, "a", 9)) }},
		{api.FactGo, "1", func(s *api.ShowState) { s.Moves = append(s.Moves, move(6, 4, 100)) }},
		{api.FactSetting, "- -", func(s *api.ShowState) { s.Setting, s.Margin = "- -", -1 }},
		{api.FactGains, "5 6", func(s *api.ShowState) { s.Gains, s.Margin = "5 6", -1 }},
		{api.FactMargin, "shut 0", func(s *api.ShowState) { s.Margin = 0 }},
		{api.FactMargin, "shut 4000", func(s *api.ShowState) { s.Margin = 4000 }},
		{api.FactFigures, "1 2 - - - - -", func(*api.ShowState) {}},
		{api.FactFault, "0 16", func(s *api.ShowState) { s.Failed = list(0, 2, 5) }},
		{api.FactFault, "3 0", func(s *api.ShowState) { s.Failed = list(2, 3, 5) }},
		{api.FactFault, "23 0", func(s *api.ShowState) { s.Failed = list(2, 5, 23) }},
		{api.FactRepair, "2", func(s *api.ShowState) { s.Failed = list(5) }},
		{api.FactRepair, "5", func(s *api.ShowState) { s.Failed = list(2) }},
		{api.FactNote, "x", func(*api.ShowState) {}},
		{api.FactSeal, "", func(s *api.ShowState) { s.Sealed = 6 }},
	} {
		want := cloned(base)
		want.Count, want.Tick = 6, 6
		c.change(&want)
		wantApplied(t, kindWords[c.kind]+" "+c.text, base, fact(6, "ann", c.kind, c.text), want, api.OK)
	}
	wantApplied(t, "the same tick", base, fact(4, "ann", api.FactNote, "x"), func() api.ShowState { s := cloned(base); s.Count = 6; return s }(), api.OK)
}

// cloned is a state with memory of its own.
func cloned(s api.ShowState) api.ShowState {
	s.Persons = slices.Clone(s.Persons)
	s.Project.Scenes = slices.Clone(s.Project.Scenes)
	for i := range s.Project.Scenes {
		s.Project.Scenes[i].Levels = slices.Clone(s.Project.Scenes[i].Levels)
	}
	s.Project.Cues = slices.Clone(s.Project.Cues)
	s.Moves = slices.Clone(s.Moves)
	for i := range s.Moves {
		s.Moves[i].Levels = slices.Clone(s.Moves[i].Levels)
	}
	s.Failed = slices.Clone(s.Failed)
	return s
}

// P10.6: a state that is none.
func TestWrongStates(t *testing.T) {
	base := stateOf(t, evening())
	base.Failed = list(2, 5)
	note := fact(4, "ann", api.FactNote, "x")
	wrong := func(name string, change func(s *api.ShowState)) {
		t.Helper()
		s := cloned(base)
		change(&s)
		wantApplied(t, name, s, note, s, api.ErrShape)
		wantApplied(t, name+" and a wrong fact", s, fact(-1, "", -1, ""), s, api.ErrShape)
	}
	for _, n := range list(-1, 201, leastInt, greatestInt) {
		wrong("Count", func(s *api.ShowState) { s.Count = n })
	}
	for _, n := range list(-1, 6, leastInt, greatestInt) {
		wrong("Sealed", func(s *api.ShowState) { s.Sealed = n })
	}
	for _, n := range list(-1, lastTick+1, leastInt, greatestInt) {
		wrong("Tick", func(s *api.ShowState) { s.Tick = n })
	}
	for _, c := range wrongProjects() {
		wrong("the project", func(s *api.ShowState) { s.Project = c.p })
	}
	for _, c := range wrongMoves() {
		wrong("the moves", func(s *api.ShowState) { s.Moves = c.l })
	}
	for _, l := range rows(list(-1), list(24), list(0, 24), list(3, 3), list(5, 3), list(1, 2, 2), list(greatestInt), list(leastInt, 1)) {
		wrong("the failed units", func(s *api.ShowState) { s.Failed = l })
	}
	// what no facts come to need not be found out
	for name, change := range map[string]func(s *api.ShowState){
		"no facts":          func(s *api.ShowState) { s.Count = 0 },
		"all sealed":        func(s *api.ShowState) { s.Sealed = 5 },
		"the last tick":     func(s *api.ShowState) { s.Tick = 0 },
		"later moves":       func(s *api.ShowState) { s.Moves = moves(move(lastTick, 1000, 1, 2, 3)) },
		"a strange margin":  func(s *api.ShowState) { s.Margin = leastInt },
		"a strange setting": func(s *api.ShowState) { s.Setting, s.Gains = "\n", "x" },
		"strange persons": func(s *api.ShowState) {
			s.Persons = append(s.Persons, repeated(20, api.ShowPerson{Name: "", Role: -9})...)
		},
		"all units": func(s *api.ShowState) { s.Failed = list(0, 23) },
	} {
		s := cloned(base)
		change(&s)
		want := cloned(s)
		want.Count, want.Tick = s.Count+1, 4
		wantApplied(t, name, s, note, want, api.OK)
	}
	s := cloned(base)
	s.Count = 199
	want := cloned(s)
	want.Count = 200
	wantApplied(t, "the last fact", s, note, want, api.OK)
	s.Count = 200
	wantApplied(t, "a fact more", s, note, s, api.ErrFull)
	s.Tick = lastTick
	wantApplied(t, "a fact more, too early", s, note, s, api.ErrFull)
}

// P10.6: who may be the first person.
func TestFounders(t *testing.T) {
	var empty api.ShowState
	for _, f := range facts(
		fact(0, "bob", api.FactPerson, "ann director"), fact(0, "ann", api.FactPerson, "ann engineer"), fact(0, "ann", api.FactPerson, "ann guest"),
		fact(0, "Ann", api.FactPerson, "ann director"), fact(0, "ann", api.FactNote, "ann director"), fact(0, "ann", api.FactSeal, ""),
		fact(0, "ann", api.FactGo, "1"), fact(0, "ann", api.FactRepair, "1"), fact(0, "ann", api.FactCue, "1 a 1"),
	) {
		wantApplied(t, "the first fact "+textOf(f), empty, f, empty, api.ErrState)
	}
	wantApplied(t, "a wrong first fact", empty, fact(0, "ann", api.FactNote, ""), empty, api.ErrSyntax)
	empty.Tick = 7
	wantApplied(t, "too early", empty, fact(6, "bob", api.FactNote, "x"), empty, api.ErrOrder)
	// a state that was made by hand keeps what it has
	want := api.ShowState{Count: 1, Tick: 7, Persons: []api.ShowPerson{{Name: "ann", Role: api.RoleDirector}}}
	wantApplied(t, "the first fact", empty, fact(7, "ann", api.FactPerson, "ann director"), want, api.OK)
}

// P10.6: ticks, persons and roles, in this order, ahead of the errors by the kind.
func TestWhoMayLog(t *testing.T) {
	base := stateOf(t, evening())
	base.Failed = list(3)
	allowed := [][]int{list(0, 1, 2, 3, 4, 5, 6, 7, 8, 9, 10, 11), list(4, 5, 6, 7, 8, 9, 10), list(3, 8, 9, 10), list(10), nil, nil, nil}
	roles := list(api.RoleDirector, api.RoleEngineer, api.RoleOperator, api.RoleGuest, 4, -1, greatestInt)
	texts := rightTexts()
	texts[api.FactPerson], texts[api.FactScene], texts[api.FactCue], texts[api.FactGo], texts[api.FactFault] = "cid guest", "a 5", "1 a 1", "1", "4 1"
	wrongTexts := slices.Clone(texts)
	wrongTexts[api.FactPerson], wrongTexts[api.FactScene], wrongTexts[api.FactCue], wrongTexts[api.FactGo] = "ann guest", "b 5,6", "1 b 1", "2"
	wrongTexts[api.FactFault], wrongTexts[api.FactRepair] = "3 1", "4"
	for i, role := range roles {
		s := cloned(base)
		s.Persons = append(s.Persons, api.ShowPerson{Name: "bob", Role: role}, api.ShowPerson{Name: "bob", Role: api.RoleDirector})
		for kind := range kinds {
			_, e := show.Apply(s, fact(5, "bob", kind, texts[kind]))
			mayLog := slices.Contains(allowed[i], kind)
			if mayLog != (e == api.OK) || !mayLog && e != api.ErrAllowed {
				t.Errorf("role %d logs %s: error %d", role, kindWords[kind], e)
			}
			f := fact(5, "bob", kind, wrongTexts[kind])
			if !mayLog {
				wantApplied(t, "a role", s, f, s, api.ErrAllowed)
			}
			f.Who = "eve"
			wantApplied(t, "nobody", s, f, s, api.ErrMissing)
			f.Tick = 3
			wantApplied(t, "nobody, too early", s, f, s, api.ErrOrder)
		}
	}
}

// with is a state that was changed.
func with(s api.ShowState, change func(s *api.ShowState)) api.ShowState {
	s = cloned(s)
	change(&s)
	return s
}

// P10.6: the errors by the kind, and their order.
func TestErrorsByKind(t *testing.T) {
	base := stateOf(t, evening())
	persons := func(count int) api.ShowState {
		return with(base, func(s *api.ShowState) {
			for i := 1; i < count; i++ {
				s.Persons = append(s.Persons, api.ShowPerson{Name: nameAt(i), Role: api.RoleGuest})
			}
		})
	}
	fullScenes := with(base, func(s *api.ShowState) { s.Project = project(numbered(0, 20)...) })
	fullCues := with(base, func(s *api.ShowState) { s.Project.Cues = cuesTo("a", 10, 40) })
	fullMoves := with(base, func(s *api.ShowState) { s.Moves = repeated(40, move(0, 0, 1)) })
	twoLevels := with(base, func(s *api.ShowState) { s.Project.Scenes = []api.ShowScene{scene("a", 1, 2), scene("b", 3, 4)} })
	failed := with(base, func(s *api.ShowState) { s.Failed = list(0, 3, 23) })
	unproved := func(s api.ShowState, margin int) api.ShowState {
		return with(s, func(s *api.ShowState) { s.Margin = margin })
	}
	for _, c := range []struct {
		name string
		s    api.ShowState
		kind int
		text string
		want api.Errno
	}{
		{"a person who is there", base, api.FactPerson, "ann director", api.ErrExists},
		{"a person with another role", base, api.FactPerson, "ann guest", api.ErrExists},
		{"the tenth person", persons(9), api.FactPerson, "bob guest", api.OK},
		{"an eleventh person", persons(10), api.FactPerson, "bob guest", api.ErrFull},
		{"a twelfth person", persons(11), api.FactPerson, "bob guest", api.ErrFull},
		{"a person who is there, without room", persons(10), api.FactPerson, "ann guest", api.ErrExists},

		{"more levels in another scene", base, api.FactScene, "b 1,2", api.ErrClash},
		{"more levels in the only scene", base, api.FactScene, "a 1,2", api.OK},
		{"fewer levels", twoLevels, api.FactScene, "a 1", api.ErrClash},
		{"fewer levels in the last scene", twoLevels, api.FactScene, "b 1", api.ErrClash},
		{"as many levels", twoLevels, api.FactScene, "b 1,2", api.OK},
		{"the 20th scene", with(fullScenes, func(s *api.ShowState) { s.Project.Scenes = s.Project.Scenes[:19] }), api.FactScene, "z 1", api.OK},
		{"a 21st scene", fullScenes, api.FactScene, "z 1", api.ErrFull},
		{"a 21st scene with more levels", fullScenes, api.FactScene, "z 1,2", api.ErrClash},
		{"the first one of 20 scenes", fullScenes, api.FactScene, "aa 5", api.OK},
		{"the last one of 20 scenes", fullScenes, api.FactScene, "at 5", api.OK},

		{"a cue to no scene", base, api.FactCue, "1 b 1", api.ErrMissing},
		{"the 40th cue", with(fullCues, func(s *api.ShowState) { s.Project.Cues = s.Project.Cues[1:] }), api.FactCue, "10 a 1", api.OK},
		{"a 41st cue", fullCues, api.FactCue, "5 a 1", api.ErrFull},
		{"a 41st cue to no scene", fullCues, api.FactCue, "5 b 1", api.ErrMissing},
		{"the first one of 40 cues", fullCues, api.FactCue, "10 a 1", api.OK},
		{"the last one of 40 cues", fullCues, api.FactCue, "49 a 1", api.OK},

		{"no cue", unproved(fullMoves, -1), api.FactGo, "2", api.ErrMissing},
		{"no margin", unproved(fullMoves, -1), api.FactGo, "1", api.ErrUnstable},
		{"too little a margin", unproved(base, 999), api.FactGo, "1", api.ErrUnstable},
		{"a margin of 900", unproved(base, 900), api.FactGo, "1", api.ErrUnstable},
		{"just the margin", unproved(base, 1000), api.FactGo, "1", api.OK},
		{"too little a margin and other levels", unproved(with(twoLevels, func(s *api.ShowState) { s.Moves = fullMoves.Moves }), 999), api.FactGo, "1", api.ErrUnstable},
		{"other levels", twoLevels, api.FactGo, "1", api.ErrClash},
		{"other levels, without room", with(twoLevels, func(s *api.ShowState) { s.Moves = fullMoves.Moves }), api.FactGo, "1", api.ErrClash},
		{"other levels, without moves", with(twoLevels, func(s *api.ShowState) { s.Moves = nil }), api.FactGo, "1", api.OK},
		{"the 40th move", with(fullMoves, func(s *api.ShowState) { s.Moves = s.Moves[1:] }), api.FactGo, "1", api.OK},
		{"a 41st move", fullMoves, api.FactGo, "1", api.ErrFull},

		{"a unit that has failed", failed, api.FactFault, "3 7", api.ErrDouble},
		{"the first unit", failed, api.FactFault, "0 7", api.ErrDouble},
		{"another unit", failed, api.FactFault, "4 7", api.OK},
		{"a unit that works", failed, api.FactRepair, "4", api.ErrMissing},
		{"a unit, if none has failed", base, api.FactRepair, "0", api.ErrMissing},
		{"the last unit", failed, api.FactRepair, "23", api.OK},
	} {
		s, e := show.Apply(c.s, fact(5, "ann", c.kind, c.text))
		if c.want == api.OK {
			wantErrno(t, c.name, e, api.OK)
			wantSame(t, c.name, s.Count, e, 6, api.OK)
		} else {
			wantWrong(t, c.name, s, e, c.want)
		}
	}
}

// P10.6: moves keep their levels and steps, and margins are forgotten.
func TestMovesStay(t *testing.T) {
	l := append(evening(),
		fact(5, "ann", api.FactScene, "a 7"), fact(5, "ann", api.FactCue, "1 a 9"), fact(5, "ann", api.FactGo, "1"),
		fact(6, "ann", api.FactScene, "a 1,2"), fact(7, "ann", api.FactSetting, "- -"),
	)
	s := stateOf(t, l)
	wantSame(t, "moves", s.Moves, api.OK, moves(move(4, 4, 100), move(5, 9, 7)), api.OK)
	wantSame(t, "the margin", s.Margin, api.OK, -1, api.OK)
	wantApplied(t, "fired without a margin", s, fact(8, "ann", api.FactGo, "1"), s, api.ErrUnstable)
	l = append(l, fact(8, "ann", api.FactMargin, "open 1000"))
	wantApplied(t, "fired with other levels", stateOf(t, l), fact(8, "ann", api.FactGo, "1"), s, api.ErrClash)
	l = append(l, fact(9, "ann", api.FactScene, "a 3"), fact(9, "ann", api.FactGo, "1"), fact(9, "ann", api.FactGains, "1 1"))
	s = stateOf(t, l)
	wantSame(t, "moves", s.Moves, api.OK, moves(move(4, 4, 100), move(5, 9, 7), move(9, 9, 3)), api.OK)
	wantApplied(t, "fired with new gains", s, fact(9, "ann", api.FactGo, "1"), s, api.ErrUnstable)
	// a move is put behind one with a later tick, in a state that was made by hand
	byHand := with(stateOf(t, evening()), func(s *api.ShowState) { s.Moves = moves(move(99, 0, 5)) })
	got, e := show.Apply(byHand, fact(6, "ann", api.FactGo, "1"))
	wantSame(t, "behind a later move", got.Moves, e, moves(move(99, 0, 5), move(6, 4, 100)), api.OK)
}

// P10.6, P10.10, P10.12: states follow the definition fact by fact; prefixes are logs; each move was proved.
func TestLogsSlowly(t *testing.T) {
	r := rand.New(rand.NewSource(6))
	met := map[api.Errno]int{}
	fired := 0
	for range 300 {
		l := facts(founded())
		s := stateOf(t, l)
		for range between(r, 0, 150) {
			f := anyFact(r, s.Tick-anyOf(r, 0, 0, 0, 0, 0, 1))
			f.Tick = max(f.Tick, 0)
			wrong := slowError(l, f)
			met[wrong]++
			if wrong != api.OK {
				wantApplied(t, textOf(f), s, f, s, wrong)
				_, n, e := show.Replay(append(l[:len(l):len(l)], f, f))
				wantSame(t, "Replay", n, e, len(l), wrong)
				continue
			}
			if f.Kind == api.FactGo {
				fired++
				wantSame(t, "safe", s.Margin >= 1000, api.OK, true, api.OK)
			}
			l = append(l, f)
			wantApplied(t, textOf(f), s, f, slowState(l), api.OK)
			s = stateOf(t, l)
			wantSame(t, "Replay", s, api.OK, slowState(l), api.OK)
		}
		wantLater(t, l)
	}
	for _, e := range []api.Errno{api.OK, api.ErrOrder, api.ErrMissing, api.ErrAllowed, api.ErrExists, api.ErrClash, api.ErrUnstable, api.ErrDouble} {
		if met[e] < 10 {
			t.Errorf("the error %d was met %d times", e, met[e])
		}
	}
	if fired < 100 {
		t.Errorf("%d cues were fired", fired)
	}
}

// wantLater tests that the levels at a tick do not depend on facts that are logged later than this tick.
func wantLater(t *testing.T, l []api.ShowFact) {
	t.Helper()
	all := stateOf(t, l).Moves
	for i := range l {
		if i+1 < len(l) && l[i+1].Tick == l[i].Tick {
			continue
		}
		so := stateOf(t, l[:i+1]).Moves
		if len(so) == 0 {
			continue
		}
		want, e := show.LevelsAt(so, l[i].Tick)
		got, _ := show.LevelsAt(all, l[i].Tick)
		wantSame(t, "levels", got, e, want, api.OK)
	}
}

// P10.6: the journal of the examples, and checks worked out in another way.
func TestJournal(t *testing.T) {
	for _, l := range [][]api.ShowFact{nil, facts()} {
		text, e := show.Journal(l)
		wantSame(t, "of nothing", text, e, "", api.OK)
	}
	// 1, then 80 for "0" and 2513 for " ", and so on
	text, e := show.Journal(facts(founded()))
	check := 2513
	for _, c := range []byte("ann person ann director") {
		check = (31*check + int(c) + 1) % 65521
	}
	wantSame(t, "a line", text, e, "0 ann person ann director "+strconv.Itoa(check)+"\n", api.OK)
	text, e = show.Journal(evening())
	wantSame(t, "the evening", text, e, slowJournal(evening()), api.OK)
	lines := strings.Split(text, "\n")
	wantSame(t, "lines", len(lines), e, 6, api.OK)
	for i, f := range evening() {
		wantSame(t, "a line", strings.HasPrefix(lines[i], show.FormatFact(f)+" "), e, true, api.OK)
	}
	// a journal may be longer than Recover takes
	long := append(facts(founded()), repeated(199, fact(lastTick, "ann", api.FactNote, strings.Repeat("\xff", mostLine)))...)
	text, e = show.Journal(long)
	wantSame(t, "a long one", text, e, slowJournal(long), api.OK)
	l, n, e := show.Recover(text)
	wantWrong(t, "a long one", l, e, api.ErrLarge)
	wantWrong(t, "its bytes", n, e, api.ErrLarge)
}

// P10.6: the first line that is not right ends a journal.
func TestRecover(t *testing.T) {
	text := slowJournal(evening())
	lines := strings.SplitAfter(text, "\n")[:5]
	second := len(lines[0]) + len(lines[1])
	recovered := func(name, text string, facts, bytes int) {
		t.Helper()
		l, n, e := show.Recover(text)
		wantSame(t, name, l, e, evening()[:facts], api.OK)
		wantSame(t, name+": bytes", n, e, bytes, api.OK)
	}
	recovered("all", text, 5, len(text))
	recovered("nothing", "", 0, 0)
	recovered("a line feed", "\n", 0, 0)
	recovered("a line feed behind", text+"\n", 5, len(text))
	recovered("something behind", text+"x", 5, len(text))
	recovered("a blank ahead", " "+text, 0, 0)
	recovered("an empty line between", lines[0]+"\n"+lines[1], 1, len(lines[0]))
	recovered("a line twice", lines[0]+lines[1]+lines[1]+lines[2], 2, second)
	recovered("a line left out", lines[0]+lines[1]+lines[3]+lines[4], 2, second)
	recovered("other ends of lines", strings.ReplaceAll(text, "\n", "\r\n"), 0, 0)
	for _, c := range []func(line string) string{
		func(line string) string { return line[:len(line)-1] },                            // joined with the next one
		func(line string) string { return strings.Replace(line, "\n", " \n", 1) },         // a blank behind
		func(line string) string { return line[:strings.LastIndex(line, " ")] + "\n" },    // no check
		func(line string) string { return line[:strings.LastIndex(line, " ")+1] + "\n" },  // an empty one
		func(line string) string { return line[:strings.LastIndex(line, " ")+1] + "1\n" }, // another one
		func(line string) string { return strings.Replace(line, " a 4 ", " a 4  ", 1) },   // two blanks
		func(line string) string { i := strings.LastIndex(line, " ") + 1; return line[:i] + "0" + line[i:] },
		func(line string) string { i := strings.LastIndex(line, " ") + 1; return line[:i] + "+" + line[i:] },
		func(line string) string { i := strings.LastIndex(line, " ") + 1; return line[:i] + "-" + line[i:] },
		func(line string) string {
			i := strings.LastIndex(line, " ") + 1
			return line[:i] + strconv.Itoa(number(strings.TrimSpace(line[i:]))+65521) + "\n"
		},
	} {
		recovered("a third line that is wrong", lines[0]+lines[1]+c(lines[2])+lines[3]+lines[4], 2, second)
	}
	// lines with right checks, whose facts are wrong or do not fit
	for _, f := range facts(
		fact(0, "ann", api.FactNote, "too early"), fact(2, "bob", api.FactNote, "nobody"), fact(2, "ann", api.FactGo, "7"),
		fact(2, "ann", api.FactNote, ""), fact(2, "", api.FactNote, "x"), fact(2, "ann", api.FactSeal, "x"), fact(-2, "ann", api.FactNote, "x"),
	) {
		l := append(evening()[:2], f)
		recovered("a fact that does not fit", slowJournal(append(l, fact(2, "ann", api.FactNote, "x"))), 2, second)
	}
}

// P10.6, P10.11: how much text and how many facts a journal may have.
func TestGreatJournals(t *testing.T) {
	full := append(facts(founded()), notes(1, 199)...)
	text, _ := show.Journal(full)
	l, n, e := show.Recover(slowJournal(append(full, notes(1, 1)...)))
	wantSame(t, "a fact more", l, e, full, api.OK)
	wantSame(t, "a fact more: bytes", n, e, len(text), api.OK)
	for _, c := range []struct {
		length int
		want   api.Errno
	}{{mostText - 1, api.OK}, {mostText, api.OK}, {mostText + 1, api.ErrLarge}} {
		padded := text + strings.Repeat("x", c.length-len(text))
		l, n, e := show.Recover(padded)
		d := show.NewDesk()
		count, loaded := d.Load(padded)
		if c.want == api.OK {
			wantSame(t, "a great text", l, e, full, api.OK)
			wantSame(t, "its bytes", n, e, len(text), api.OK)
			wantSame(t, "Load", count, loaded, 200, api.OK)
		} else {
			wantWrong(t, "a great text", l, e, c.want)
			wantWrong(t, "its bytes", n, e, c.want)
			wantWrong(t, "Load", count, loaded, c.want)
		}
	}
}

// anyLog is the facts of some random ones that fit.
func anyLog(r *rand.Rand, most int) []api.ShowFact {
	l := facts(founded())
	for range most {
		f := anyFact(r, l[len(l)-1].Tick)
		if slowError(l, f) == api.OK {
			l = append(l, f)
		}
	}
	return l
}

// P10.11: journals are recovered, cut at any byte, and ended by a byte that is another one.
func TestJournalsSlowly(t *testing.T) {
	r := rand.New(rand.NewSource(7))
	byChance := 0
	for range 25 {
		want := anyLog(r, 30)
		text, e := show.Journal(want)
		wantSame(t, "Journal", text, e, slowJournal(want), api.OK)
		for cut := range len(text) + 1 {
			l, n, e := show.Recover(text[:cut])
			whole := strings.Count(text[:cut], "\n")
			wantSame(t, "cut", l, e, want[:whole], api.OK)
			wantSame(t, "cut: bytes", n, e, strings.LastIndex(text[:cut], "\n")+1, api.OK)
		}
		for range 400 {
			at := r.Intn(len(text))
			other := []byte(text)
			other[at] = byte(r.Intn(256))
			if other[at] == text[at] {
				continue
			}
			l, n, e := show.Recover(string(other))
			line := strings.Count(text[:at], "\n")
			if e != api.OK || len(l) > line {
				byChance++
				continue
			}
			wantSame(t, "another byte", l, e, want[:line], api.OK)
			wantSame(t, "another byte: bytes", n, e, strings.LastIndex(text[:at], "\n")+1, api.OK)
		}
	}
	if byChance > 5 {
		t.Errorf("%d checks agree by chance", byChance)
	}
}

// P10.6: which facts are found, and the errors of queries in their order.
func TestQuery(t *testing.T) {
	l := append(evening(), fact(4, "ann", api.FactPerson, "bob guest"), fact(6, "bob", api.FactNote, "x"), fact(9, "ann", api.FactNote, "y"))
	for _, c := range []struct {
		q    api.ShowQuery
		want []int
	}{
		{api.ShowQuery{Kind: -1, To: lastTick}, list(0, 1, 2, 3, 4, 5, 6, 7)},
		{api.ShowQuery{Kind: -1, From: 2, To: 3}, list(2, 3)},
		{api.ShowQuery{Kind: -1, From: 4, To: 4}, list(4, 5)},
		{api.ShowQuery{Kind: -1, From: 5, To: 5}, nil},
		{api.ShowQuery{Kind: -1, From: lastTick, To: lastTick}, nil},
		{api.ShowQuery{Kind: -1}, list(0)},
		{api.ShowQuery{To: 9}, list(0, 5)},
		{api.ShowQuery{Kind: api.FactNote, To: 9}, list(6, 7)},
		{api.ShowQuery{Kind: api.FactNote, To: 8}, list(6)},
		{api.ShowQuery{Kind: api.FactSeal, To: 9}, nil},
		{api.ShowQuery{Who: "bob", Kind: -1, To: 9}, list(6)},
		{api.ShowQuery{Who: "ann", Kind: api.FactNote, To: 9}, list(7)},
		{api.ShowQuery{Who: "eve", Kind: -1, To: 9}, nil},
		{api.ShowQuery{Who: "Bob", Kind: -1, To: 9}, nil},
	} {
		found, e := show.Query(l, c.q)
		wantSame(t, "Query "+textOf(c.q), found, e, c.want, api.OK)
	}
	found, e := show.Query(nil, api.ShowQuery{Kind: -1, To: 9})
	wantSame(t, "Query of nothing", found, e, nil, api.OK)
	for _, c := range []struct {
		q    api.ShowQuery
		want api.Errno
	}{
		{api.ShowQuery{Who: "*", Kind: -2, From: -1, To: -2}, api.ErrName},
		{api.ShowQuery{Who: "a b"}, api.ErrName},
		{api.ShowQuery{Who: "abcdefghijklm"}, api.ErrName},
		{api.ShowQuery{Kind: -2, From: -1}, api.ErrKind},
		{api.ShowQuery{Who: "eve", Kind: kinds, From: -1}, api.ErrKind},
		{api.ShowQuery{Kind: leastInt}, api.ErrKind},
		{api.ShowQuery{Kind: greatestInt}, api.ErrKind},
		{api.ShowQuery{From: -1, To: 5}, api.ErrRange},
		{api.ShowQuery{From: lastTick + 1, To: 5}, api.ErrRange},
		{api.ShowQuery{From: 5, To: -1}, api.ErrRange},
		{api.ShowQuery{From: 5, To: lastTick + 1}, api.ErrRange},
		{api.ShowQuery{From: leastInt, To: greatestInt}, api.ErrRange},
		{api.ShowQuery{From: 5, To: 4}, api.ErrOrder},
		{api.ShowQuery{Kind: -1, From: lastTick, To: 0}, api.ErrOrder},
	} {
		for _, l := range [][]api.ShowFact{nil, l} {
			found, e := show.Query(l, c.q)
			wantWrong(t, "Query "+textOf(c.q), found, e, c.want)
		}
	}
}
