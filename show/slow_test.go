package show_test

import (
	"math/big"
	"slices"
	"strconv"
	"strings"

	"shoebox/api"
	"shoebox/show"
)

// slowFade is the levels of a fade: of all numbers, the one that is nearest; of two, the greater one.
func slowFade(from, to []int, steps, step int) []int {
	if step == steps {
		return to
	}
	var l []int
	for i := range from {
		exact := from[i]*steps + (to[i]-from[i])*step
		best := 0
		for n := range 1001 {
			if apart(n*steps, exact) <= apart(best*steps, exact) {
				best = n
			}
		}
		l = append(l, best)
	}
	return l
}

func apart(a, b int) int { return max(a-b, b-a) }

// slowLevels is the levels that moves with so many channels have at a tick, as the definition says.
func slowLevels(l []api.ShowMove, tick, channels int) []int {
	for i := len(l) - 1; i >= 0; i-- {
		if m := l[i]; m.Tick <= tick {
			return slowFade(slowLevels(l[:i], m.Tick, channels), m.Levels, m.Steps, min(tick-m.Tick, m.Steps))
		}
	}
	return make([]int, channels)
}

// sceneText and cueText are what a project has of an item, or "" if it has it not.
func sceneText(p api.ShowProject, name string) string {
	for _, s := range p.Scenes {
		if s.Name == name {
			return textOf(s)
		}
	}
	return ""
}

func cueText(p api.ShowProject, number int) string {
	for _, c := range p.Cues {
		if c.Number == number {
			return textOf(c)
		}
	}
	return ""
}

// namesIn and numbersIn are the names of all scenes, and the numbers of all cues, of some projects.
func namesIn(l ...api.ShowProject) []string {
	var names []string
	for _, p := range l {
		for _, s := range p.Scenes {
			names = append(names, s.Name)
		}
	}
	slices.Sort(names)
	return slices.Compact(names)
}

func numbersIn(l ...api.ShowProject) []int {
	var numbers []int
	for _, p := range l {
		for _, c := range p.Cues {
			numbers = append(numbers, c.Number)
		}
	}
	slices.Sort(numbers)
	return slices.Compact(numbers)
}

func slowDifferences(a, b api.ShowProject) []string {
	var l []string
	for _, name := range namesIn(a, b) {
		if sceneText(a, name) != sceneText(b, name) {
			l = append(l, "scene "+name)
		}
	}
	for _, number := range numbersIn(a, b) {
		if cueText(a, number) != cueText(b, number) {
			l = append(l, "cue "+strconv.Itoa(number))
		}
	}
	return l
}

// chosen is which one of two projects an item is taken from, and whether it is a conflict.
func chosen(old, a, b string) (isSecond, isConflict bool) {
	return a != b && a == old, a != b && a != old && b != old
}

// slowMerged is the merged project and its conflicts, item by item.
func slowMerged(old, a, b api.ShowProject) (api.ShowProject, []string) {
	from := map[bool]api.ShowProject{false: a, true: b}
	var p api.ShowProject
	var conflicts []string
	for _, name := range namesIn(old, a, b) {
		isSecond, isConflict := chosen(sceneText(old, name), sceneText(a, name), sceneText(b, name))
		for _, s := range from[isSecond].Scenes {
			if s.Name == name {
				p.Scenes = append(p.Scenes, s)
			}
		}
		if isConflict {
			conflicts = append(conflicts, "scene "+name)
		}
	}
	for _, number := range numbersIn(old, a, b) {
		isSecond, isConflict := chosen(cueText(old, number), cueText(a, number), cueText(b, number))
		for _, c := range from[isSecond].Cues {
			switch {
			case c.Number != number:
			case sceneText(p, c.Scene) == "":
				isConflict = true
			default:
				p.Cues = append(p.Cues, c)
			}
		}
		if isConflict {
			conflicts = append(conflicts, "cue "+strconv.Itoa(number))
		}
	}
	return p, conflicts
}

// slowAncestors is the numbers of all ancestors of a version.
func slowAncestors(h []api.ShowVersion, of int) map[int]bool {
	all := map[int]bool{of: true}
	for _, parent := range h[of].Parents {
		for n := range slowAncestors(h, parent) {
			all[n] = true
		}
	}
	return all
}

func slowBase(h []api.ShowVersion, a, b int) int {
	best := -1
	ofB := slowAncestors(h, b)
	for n := range slowAncestors(h, a) {
		if ofB[n] {
			best = max(best, n)
		}
	}
	return best
}

// words is the words of the Text of a fact.
func words(f api.ShowFact) []string { return strings.Split(f.Text, " ") }

func number(text string) int {
	n, _ := strconv.Atoi(text)
	return n
}

// latest is the number of the last fact of a log that is meant, or -1.
func latest(l []api.ShowFact, isMeant func(f api.ShowFact) bool) int {
	for i := len(l) - 1; i >= 0; i-- {
		if isMeant(l[i]) {
			return i
		}
	}
	return -1
}

// latestWith is the number of the last fact of a kind whose Text begins with a word, or -1.
func latestWith(l []api.ShowFact, kind int, word string) int {
	return latest(l, func(f api.ShowFact) bool { return f.Kind == kind && words(f)[0] == word })
}

func latestOf(l []api.ShowFact, kind int) int {
	return latest(l, func(f api.ShowFact) bool { return f.Kind == kind })
}

// textAt is the Text of a fact, or "" for -1.
func textAt(l []api.ShowFact, i int) string {
	if i < 0 {
		return ""
	}
	return l[i].Text
}

func slowMargin(l []api.ShowFact) int {
	at := latestOf(l, api.FactMargin)
	if at < latestOf(l, api.FactSetting) || at < latestOf(l, api.FactGains) || at < 0 {
		return -1
	}
	return number(words(l[at])[1])
}

// slowLevelsOf is the levels of the scene of the last fact with its name.
func slowLevelsOf(l []api.ShowFact, name string) []int {
	var levels []int
	for _, text := range strings.Split(words(l[latestWith(l, api.FactScene, name)])[1], ",") {
		levels = append(levels, number(text))
	}
	return levels
}

func slowCue(l []api.ShowFact, word string) api.ShowCue {
	w := words(l[latestWith(l, api.FactCue, word)])
	return api.ShowCue{Number: number(word), Scene: w[1], Steps: number(w[2])}
}

func slowMove(l []api.ShowFact, f api.ShowFact) api.ShowMove {
	c := slowCue(l, f.Text)
	return api.ShowMove{Tick: f.Tick, Levels: slowLevelsOf(l, c.Scene), Steps: c.Steps}
}

// slowHasFailed tells whether the last fault of a unit comes behind its last repair.
func slowHasFailed(l []api.ShowFact, word string) bool {
	return latestWith(l, api.FactFault, word) > latestWith(l, api.FactRepair, word)
}

// firstWords is the first words of all facts of a kind, each once.
func firstWords(l []api.ShowFact, kind int) []string {
	var all []string
	for _, f := range l {
		if f.Kind == kind {
			all = append(all, words(f)[0])
		}
	}
	slices.Sort(all)
	return slices.Compact(all)
}

func slowRole(word string) int {
	return slices.Index([]string{"director", "engineer", "operator", "guest"}, word)
}

// slowState is the state of a log, each part of it found by looking back.
func slowState(l []api.ShowFact) api.ShowState {
	s := api.ShowState{
		Count: len(l), Sealed: latestOf(l, api.FactSeal) + 1, Margin: slowMargin(l),
		Setting: textAt(l, latestOf(l, api.FactSetting)), Gains: textAt(l, latestOf(l, api.FactGains)),
	}
	if len(l) > 0 {
		s.Tick = l[len(l)-1].Tick
	}
	for i, f := range l {
		switch f.Kind {
		case api.FactPerson:
			s.Persons = append(s.Persons, api.ShowPerson{Name: words(f)[0], Role: slowRole(words(f)[1])})
		case api.FactGo:
			s.Moves = append(s.Moves, slowMove(l[:i], f))
		}
	}
	for _, name := range firstWords(l, api.FactScene) {
		s.Project.Scenes = append(s.Project.Scenes, scene(name, slowLevelsOf(l, name)...))
	}
	for _, word := range firstWords(l, api.FactCue) {
		s.Project.Cues = append(s.Project.Cues, slowCue(l, word))
	}
	slices.SortFunc(s.Project.Cues, func(a, b api.ShowCue) int { return a.Number - b.Number })
	for _, word := range firstWords(l, api.FactFault) {
		if slowHasFailed(l, word) {
			s.Failed = append(s.Failed, number(word))
		}
	}
	slices.Sort(s.Failed)
	return s
}

// slowError is the error of a right fact behind a log, found by looking back.
func slowError(l []api.ShowFact, f api.ShowFact) api.Errno {
	switch {
	case len(l) >= mostFacts:
		return api.ErrFull
	case len(l) > 0 && f.Tick < l[len(l)-1].Tick:
		return api.ErrOrder
	case len(l) == 0 && (f.Kind != api.FactPerson || f.Text != f.Who+" director"):
		return api.ErrState
	case len(l) == 0:
		return api.OK
	}
	who := latestWith(l, api.FactPerson, f.Who)
	if who < 0 {
		return api.ErrMissing
	}
	if !strings.Contains(slowAllowed(words(l[who])[1]), " "+strconv.Itoa(f.Kind)+" ") {
		return api.ErrAllowed
	}
	return slowKindError(l, f)
}

// slowAllowed is the numbers of the kinds that a role may log, with blanks around.
func slowAllowed(role string) string {
	switch role {
	case "engineer":
		return " 4 5 6 7 8 9 10 "
	case "operator":
		return " 3 8 9 10 "
	case "guest":
		return " 10 "
	}
	return " 0 1 2 3 4 5 6 7 8 9 10 11 "
}

// slowKindError is the error that the kind of a fact has behind a log.
func slowKindError(l []api.ShowFact, f api.ShowFact) api.Errno {
	s := slowState(l)
	word := words(f)[0]
	switch f.Kind {
	case api.FactPerson:
		if latestWith(l, api.FactPerson, word) >= 0 {
			return api.ErrExists
		}
		if len(s.Persons) >= 10 {
			return api.ErrFull
		}
	case api.FactScene:
		for _, other := range s.Project.Scenes {
			if other.Name != word && len(other.Levels) != strings.Count(f.Text, ",")+1 {
				return api.ErrClash
			}
		}
		if sceneText(s.Project, word) == "" && len(s.Project.Scenes) >= mostScenes {
			return api.ErrFull
		}
	case api.FactCue:
		if sceneText(s.Project, words(f)[1]) == "" {
			return api.ErrMissing
		}
		if cueText(s.Project, number(word)) == "" && len(s.Project.Cues) >= mostCues {
			return api.ErrFull
		}
	case api.FactGo:
		return slowGoError(l, f)
	case api.FactFault:
		if slowHasFailed(l, word) {
			return api.ErrDouble
		}
	case api.FactRepair:
		if !slowHasFailed(l, word) {
			return api.ErrMissing
		}
	}
	return api.OK
}

func slowGoError(l []api.ShowFact, f api.ShowFact) api.Errno {
	earlier := slowState(l).Moves
	switch {
	case latestWith(l, api.FactCue, f.Text) < 0:
		return api.ErrMissing
	case slowMargin(l) < 1000:
		return api.ErrUnstable
	case len(earlier) > 0 && len(earlier[0].Levels) != len(slowMove(l, f).Levels):
		return api.ErrClash
	case len(earlier) >= mostMoves:
		return api.ErrFull
	}
	return api.OK
}

// slowJournal is the journal of a log: a check is worked out from all bytes of all texts so far, without a modulus on the way.
func slowJournal(l []api.ShowFact) string {
	journal := ""
	sum := big.NewInt(1)
	for _, f := range l {
		text := show.FormatFact(f)
		for _, c := range []byte(text) {
			sum.Mul(sum, big.NewInt(31))
			sum.Add(sum, big.NewInt(int64(c)+1))
		}
		journal += text + " " + new(big.Int).Mod(sum, big.NewInt(65521)).String() + "\n"
	}
	return journal
}
