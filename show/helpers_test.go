package show_test

import (
	"fmt"
	"math/rand"
	"strconv"
	"strings"
	"testing"

	"shoebox/api"
)

const (
	leastInt     = -1 << 63
	greatestInt  = 1<<63 - 1
	lastTick     = 100000000 // the greatest tick of a fact
	mostMoves    = 40
	mostScenes   = 20
	mostCues     = 40
	mostVersions = 20
	mostFacts    = 200
	mostLine     = 400   // bytes of a Text
	mostText     = 60000 // bytes of a journal
	kinds        = 12
)

func list(l ...int) []int { return l }

func rows(l ...[]int) [][]int { return l }

func fade(steps, step int, from, to []int) api.ShowFade {
	return api.ShowFade{From: from, To: to, Steps: steps, Step: step}
}

func move(tick, steps int, levels ...int) api.ShowMove {
	return api.ShowMove{Tick: tick, Levels: levels, Steps: steps}
}

func moves(l ...api.ShowMove) []api.ShowMove { return l }

// repeated is the same thing so many times.
func repeated[T any](count int, x T) []T {
	var l []T
	for range count {
		l = append(l, x)
	}
	return l
}

func scene(name string, levels ...int) api.ShowScene {
	return api.ShowScene{Name: name, Levels: levels}
}

func cue(number int, scene string, steps int) api.ShowCue {
	return api.ShowCue{Number: number, Scene: scene, Steps: steps}
}

func cues(l ...api.ShowCue) []api.ShowCue { return l }

// project is a project of some scenes, without cues.
func project(l ...api.ShowScene) api.ShowProject { return api.ShowProject{Scenes: l} }

// cued is a project with cues.
func cued(p api.ShowProject, l ...api.ShowCue) api.ShowProject {
	p.Cues = l
	return p
}

// nameAt is a name for each number from 0 to 675, ascending.
func nameAt(i int) string { return string([]byte{'a' + byte(i/26), 'a' + byte(i%26)}) }

// numbered is so many scenes with a level each, behind some others.
func numbered(from, count int) []api.ShowScene {
	var l []api.ShowScene
	for i := range count {
		l = append(l, scene(nameAt(from+i), i))
	}
	return l
}

// cuesTo is so many cues to a scene, from a number on.
func cuesTo(name string, from, count int) []api.ShowCue {
	var l []api.ShowCue
	for i := range count {
		l = append(l, cue(from+i, name, 0))
	}
	return l
}

func fact(tick int, who string, kind int, text string) api.ShowFact {
	return api.ShowFact{Tick: tick, Who: who, Kind: kind, Text: text}
}

func facts(l ...api.ShowFact) []api.ShowFact { return l }

// founded is the first fact of the examples.
func founded() api.ShowFact { return fact(0, "ann", api.FactPerson, "ann director") }

// evening is the log of the fifth example, with the margin.
func evening() []api.ShowFact {
	return facts(
		founded(),
		fact(1, "ann", api.FactScene, "a 100"),
		fact(2, "ann", api.FactCue, "1 a 4"),
		fact(3, "ann", api.FactMargin, "open 1500"),
		fact(4, "ann", api.FactGo, "1"),
	)
}

// rightTexts is a right Text for each kind; they fit one after the other if the margin comes ahead.
func rightTexts() []string {
	return []string{"bob guest", "a 1,2", "7 a 4", "7", "0 1", "1000 0;500 400", "open 1500", "1 2 - - - - -", "3 1", "3", "good", ""}
}

// textOf is the same for results that are alike: for nil and empty lists.
func textOf(x any) string { return fmt.Sprintf("%+v", x) }

// wantSame tests a result and its error.
func wantSame[T any](t *testing.T, name string, got T, e api.Errno, want T, wrong api.Errno) {
	t.Helper()
	if textOf(got) != textOf(want) || e != wrong {
		t.Errorf("%s: %+v, error %d, want %+v, %d", name, got, e, want, wrong)
	}
}

// wantTexts tests a list of texts and its error; texts may have blanks.
func wantTexts(t *testing.T, name string, got []string, e api.Errno, want []string, wrong api.Errno) {
	t.Helper()
	wantSame(t, name, strings.Join(got, ";"), e, strings.Join(want, ";"), wrong)
	wantSame(t, name, len(got), e, len(want), wrong)
}

// wantWrong tests an error, beside which there may be nothing.
func wantWrong[T any](t *testing.T, name string, got T, e, wrong api.Errno) {
	t.Helper()
	var nothing T
	wantSame(t, name, got, e, nothing, wrong)
}

// wantErrno tests an error.
func wantErrno(t *testing.T, name string, e, want api.Errno) {
	t.Helper()
	if e != want {
		t.Errorf("%s: error %d, want %d", name, e, want)
	}
}

// choose is one of two values.
func choose[T any](isFirst bool, first, second T) T {
	if isFirst {
		return first
	}
	return second
}

// anyOf is one of some values.
func anyOf[T any](r *rand.Rand, l ...T) T { return l[r.Intn(len(l))] }

// between is a number of a range.
func between(r *rand.Rand, least, greatest int) int { return least + r.Intn(greatest-least+1) }

// anyLevels is levels for so many channels.
func anyLevels(r *rand.Rand, channels int) []int {
	var l []int
	for range channels {
		l = append(l, anyOf(r, 0, 1, 1000, between(r, 0, 1000)))
	}
	return l
}

// anyMoves is right moves, some at the same tick, some without steps.
func anyMoves(r *rand.Rand, channels, most int) []api.ShowMove {
	var l []api.ShowMove
	tick := r.Intn(5)
	for range r.Intn(most + 1) {
		l = append(l, move(tick, anyOf(r, 0, 0, 1, between(r, 0, 12)), anyLevels(r, channels)...))
		tick += anyOf(r, 0, 0, 1, between(r, 0, 15))
	}
	return l
}

// anyProject is a right project with few names, numbers and levels, so that two of them have items alike.
func anyProject(r *rand.Rand) api.ShowProject {
	var p api.ShowProject
	for _, name := range []string{"a", "b", "c"} {
		if r.Intn(3) > 0 {
			p.Scenes = append(p.Scenes, scene(name, r.Intn(3), 7))
		}
	}
	for number := 9; number < 12 && len(p.Scenes) > 0; number++ {
		if r.Intn(3) > 0 {
			p.Cues = append(p.Cues, cue(number, anyOf(r, p.Scenes...).Name, r.Intn(2)))
		}
	}
	return p
}

// near is a right project of which most items are those of another one.
func near(r *rand.Rand, p api.ShowProject) api.ShowProject {
	var m api.ShowProject
	other := anyProject(r)
	for _, name := range namesIn(p, other) {
		for _, s := range anyOf(r, p, p, p, p, other).Scenes {
			if s.Name == name {
				m.Scenes = append(m.Scenes, s)
			}
		}
	}
	for _, number := range numbersIn(p, other) {
		for _, c := range anyOf(r, p, p, p, p, other).Cues {
			if c.Number == number && sceneText(m, c.Scene) != "" {
				m.Cues = append(m.Cues, c)
			}
		}
	}
	return m
}

// anyHistory is a right history.
func anyHistory(r *rand.Rand, most int) []api.ShowVersion {
	h := []api.ShowVersion{{Project: anyProject(r)}}
	for i := 1; i < most; i++ {
		v := api.ShowVersion{Parents: list(r.Intn(i)), Project: anyProject(r)}
		if r.Intn(2) == 0 && v.Parents[0] < i-1 {
			v.Parents = append(v.Parents, between(r, v.Parents[0]+1, i-1))
		}
		h = append(h, v)
	}
	return h
}

// anyText is a right Text of a kind, with few names and numbers, so that facts meet.
func anyText(r *rand.Rand, kind int) string {
	name := anyOf(r, "a", "b", "c")
	number := strconv.Itoa(between(r, 1, 3))
	switch kind {
	case api.FactPerson:
		return anyOf(r, "ann", "bob", "cid", "dan") + " " + anyOf(r, "director", "engineer", "operator", "guest")
	case api.FactScene:
		return name + " " + anyOf(r, "0", "5,1000", "10,20", "7,8", "300,400")
	case api.FactCue:
		return number + " " + name + " " + strconv.Itoa(r.Intn(6))
	case api.FactGo, api.FactRepair:
		return number
	case api.FactSetting:
		return anyOf(r, "- -", "0 1", "1 -")
	case api.FactGains:
		return anyOf(r, "1000 0", "500 400;1 2")
	case api.FactMargin:
		return anyOf(r, "open", "shut") + " " + anyOf(r, "0", "900", "1000", "1500", "4000")
	case api.FactFigures:
		return "1 2 - - - - -"
	case api.FactFault:
		return number + " " + strconv.Itoa(r.Intn(17))
	case api.FactNote:
		return anyOf(r, "x", " x ", "a  b", "0 ann note x 7", "\x00\xff")
	}
	return ""
}

// anyFact is a right fact at a tick or a little later; it need not fit.
func anyFact(r *rand.Rand, tick int) api.ShowFact {
	kind := anyOf(r, r.Intn(kinds), r.Intn(kinds), api.FactGo, api.FactMargin, api.FactScene, api.FactCue)
	return fact(tick+anyOf(r, 0, 0, 1, 5), anyOf(r, "ann", "ann", "ann", "ann", "bob", "cid", "dan", "eve"), kind, anyText(r, kind))
}
