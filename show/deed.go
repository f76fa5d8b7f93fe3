package show

import (
	"cmp"
	"slices"

	"shoebox/api"
)

// deed is what a fact of a kind does: how its Text is read, whether it fits a house, and what it changes there.
type deed struct {
	read  func(s *saying) api.Errno
	fits  func(h *house, s saying) api.Errno
	apply func(h *house, s saying)
}

// deedOf is what a fact of a kind does.
func deedOf(kind int) deed {
	return [...]deed{
		api.FactPerson:  {(*saying).readPerson, (*house).fitsPerson, (*house).applyPerson},
		api.FactScene:   {(*saying).readScene, (*house).fitsScene, (*house).applyScene},
		api.FactCue:     {(*saying).readCue, (*house).fitsCue, (*house).applyCue},
		api.FactGo:      {(*saying).readGo, (*house).fitsGo, (*house).applyGo},
		api.FactSetting: {(*saying).readSetting, (*house).fitsAlways, (*house).applySetting},
		api.FactGains:   {(*saying).readGains, (*house).fitsAlways, (*house).applyGains},
		api.FactMargin:  {(*saying).readMargin, (*house).fitsAlways, (*house).applyMargin},
		api.FactFigures: {(*saying).readFigures, (*house).fitsAlways, (*house).applyNothing},
		api.FactFault:   {(*saying).readFault, (*house).fitsFault, (*house).applyFault},
		api.FactRepair:  {(*saying).readRepair, (*house).fitsRepair, (*house).applyRepair},
		api.FactNote:    {(*saying).readNote, (*house).fitsAlways, (*house).applyNothing},
		api.FactSeal:    {(*saying).readSeal, (*house).fitsAlways, (*house).applySeal},
	}[kind]
}

func (h *house) fitsAlways(saying) api.Errno { return api.OK }
func (h *house) applyNothing(saying)         {}

func (h *house) fitsPerson(s saying) api.Errno {
	return firstError(
		refuse(h.personAt(s.person.Name) >= 0, api.ErrExists),
		refuse(len(h.Persons) >= api.MaxShowPersons, api.ErrFull),
	)
}

func (h *house) applyPerson(s saying) { h.Persons = append(h.Persons, s.person) }

func (h *house) fitsScene(s saying) api.Errno {
	differs := func(other api.ShowScene) bool {
		return other.Name != s.scene.Name && len(other.Levels) != len(s.scene.Levels)
	}
	isNew := sceneAt(h.Project, s.scene.Name) < 0
	return firstError(
		refuse(slices.ContainsFunc(h.Project.Scenes, differs), api.ErrClash),
		refuse(isNew && len(h.Project.Scenes) >= api.MaxShowScenes, api.ErrFull),
	)
}

func (h *house) applyScene(s saying) {
	h.Project.Scenes = placed(h.Project.Scenes, s.scene, func(a, b api.ShowScene) int { return cmp.Compare(a.Name, b.Name) })
}

func (h *house) fitsCue(s saying) api.Errno {
	isNew := cueAt(h.Project, s.cue.Number) < 0
	return firstError(
		refuse(sceneAt(h.Project, s.cue.Scene) < 0, api.ErrMissing),
		refuse(isNew && len(h.Project.Cues) >= api.MaxShowCues, api.ErrFull),
	)
}

func (h *house) applyCue(s saying) {
	h.Project.Cues = placed(h.Project.Cues, s.cue, func(a, b api.ShowCue) int { return cmp.Compare(a.Number, b.Number) })
}

// placed is an ascending list with an item at its place, or in place of the one that is there.
func placed[T any](l []T, item T, compare func(a, b T) int) []T {
	at, isThere := slices.BinarySearchFunc(l, item, compare)
	if isThere {
		l[at] = item
		return l
	}
	return slices.Insert(l, at, item)
}

// moveOf is the move of a cue that is fired now; false if there is no such cue.
func (h *house) moveOf(s saying) (api.ShowMove, bool) {
	at := cueAt(h.Project, s.number)
	if at < 0 {
		return api.ShowMove{}, false
	}
	c := h.Project.Cues[at]
	scene := h.Project.Scenes[sceneAt(h.Project, c.Scene)]
	return api.ShowMove{Tick: s.Tick, Levels: slices.Clone(scene.Levels), Steps: c.Steps}, true
}

func (h *house) fitsGo(s saying) api.Errno {
	move, isThere := h.moveOf(s)
	differs := func(earlier api.ShowMove) bool { return len(earlier.Levels) != len(move.Levels) }
	return firstError(
		refuse(!isThere, api.ErrMissing),
		refuse(h.Margin < api.ShowSafe, api.ErrUnstable),
		refuse(slices.ContainsFunc(h.Moves, differs), api.ErrClash),
		refuse(len(h.Moves) >= api.MaxShowMoves, api.ErrFull),
	)
}

func (h *house) applyGo(s saying) {
	move, _ := h.moveOf(s)
	h.Moves = append(h.Moves, move)
}

func (h *house) applySetting(s saying) { h.Setting, h.Margin = s.Text, unproved }
func (h *house) applyGains(s saying)   { h.Gains, h.Margin = s.Text, unproved }
func (h *house) applyMargin(s saying)  { h.Margin = s.margin }

func (h *house) hasFailed(unit int) bool { return slices.Contains(h.Failed, unit) }

func (h *house) fitsFault(s saying) api.Errno {
	return refuse(h.hasFailed(s.number), api.ErrDouble)()
}

func (h *house) applyFault(s saying) { h.Failed = placed(h.Failed, s.number, cmp.Compare[int]) }

func (h *house) fitsRepair(s saying) api.Errno {
	return refuse(!h.hasFailed(s.number), api.ErrMissing)()
}

func (h *house) applyRepair(s saying) {
	h.Failed = slices.DeleteFunc(h.Failed, func(unit int) bool { return unit == s.number })
}

func (h *house) applySeal(saying) { h.Sealed = h.Count }
