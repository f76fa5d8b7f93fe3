package show

import (
	"maps"
	"slices"
	"strconv"

	"shoebox/api"
)

// What the items of a project are called when they are told.
const (
	sceneItem = "scene"
	cueItem   = "cue"
)

func tellScene(name string) string { return sceneItem + blank + name }
func tellCue(number int) string    { return cueItem + blank + strconv.Itoa(number) }

// sceneAt is the number of the scene with a name, or -1.
func sceneAt(p api.ShowProject, name string) int {
	return slices.IndexFunc(p.Scenes, func(s api.ShowScene) bool { return s.Name == name })
}

// cueAt is the number of the cue that has a Number, or -1.
func cueAt(p api.ShowProject, number int) int {
	return slices.IndexFunc(p.Cues, func(c api.ShowCue) bool { return c.Number == number })
}

// numbered is the condition that a cue can have a Number.
func numbered(number int) condition { return within(number, 1, api.MaxShowNumber) }

// CheckProject returns the first error of a project, and the number of the scene or the cue that has it.
func CheckProject(p api.ShowProject) (int, api.Errno) {
	if len(p.Scenes) > api.MaxShowScenes {
		return 0, api.ErrLarge
	}
	if i, e := firstWrong(len(p.Scenes), func(i int) api.Errno { return sceneError(p.Scenes, i) }); e != api.OK {
		return i, e
	}
	if len(p.Cues) > api.MaxShowCues {
		return 0, api.ErrLarge
	}
	return firstWrong(len(p.Cues), func(i int) api.Errno { return cueError(p, i) })
}

// sceneError is the error of a scene behind others.
func sceneError(l []api.ShowScene, i int) api.Errno {
	s := l[i]
	return firstError(
		refuse(!isName(s.Name), api.ErrName),
		refuse(i > 0 && s.Name <= l[i-1].Name, api.ErrOrder),
		leveled(s.Levels),
		refuse(len(s.Levels) != len(l[0].Levels), api.ErrClash),
	)
}

// cueError is the error of a cue behind others.
func cueError(p api.ShowProject, i int) api.Errno {
	c := p.Cues[i]
	return firstError(
		numbered(c.Number),
		refuse(i > 0 && c.Number <= p.Cues[i-1].Number, api.ErrOrder),
		refuse(sceneAt(p, c.Scene) < 0, api.ErrMissing),
		stepped(c.Steps),
	)
}

// projected is the condition that a project is right.
func projected(p api.ShowProject) condition {
	return func() api.Errno { return unnumbered(CheckProject(p))() }
}

// copied is a project with memory of its own.
func copied(p api.ShowProject) api.ShowProject {
	c := api.ShowProject{Cues: slices.Clone(p.Cues)}
	for _, s := range p.Scenes {
		c.Scenes = append(c.Scenes, api.ShowScene{Name: s.Name, Levels: slices.Clone(s.Levels)})
	}
	return c
}

func scenesOf(p api.ShowProject) table[string, api.ShowScene] {
	nameOf := func(s api.ShowScene) string { return s.Name }
	isSame := func(a, b api.ShowScene) bool { return slices.Equal(a.Levels, b.Levels) }
	return tableOf(p.Scenes, nameOf, isSame)
}

func cuesOf(p api.ShowProject) table[int, api.ShowCue] {
	numberOf := func(c api.ShowCue) int { return c.Number }
	isSame := func(a, b api.ShowCue) bool { return a == b }
	return tableOf(p.Cues, numberOf, isSame)
}

// tellItems tells scenes, and then cues.
func tellItems(scenes []string, cues []int) []string {
	return slices.Concat(told(scenes, tellScene), told(cues, tellCue))
}

// Differences tells the items that two projects have not alike.
func Differences(a, b api.ShowProject) ([]string, api.Errno) {
	if e := firstError(projected(a), projected(b)); e != api.OK {
		return nil, e
	}
	return tellItems(apart(scenesOf(a), scenesOf(b)), apart(cuesOf(a), cuesOf(b))), api.OK
}

// sameChannels is the condition that all scenes of some projects have as many levels.
func sameChannels(projects ...api.ShowProject) condition {
	channels := map[int]bool{}
	for _, p := range projects {
		for _, s := range p.Scenes {
			channels[len(s.Levels)] = true
		}
	}
	return refuse(len(channels) > 1, api.ErrClash)
}

// mergedOf is the merged project of right ones, and its conflicts.
func mergedOf(old, a, b api.ShowProject) (api.ShowProject, []string) {
	scenes, sceneConflicts := merge(scenesOf(old), scenesOf(a), scenesOf(b))
	cues, cueConflicts := merge(cuesOf(old), cuesOf(a), cuesOf(b))
	for _, c := range cues.ascending() {
		if _, isThere := scenes.items[c.Scene]; !isThere {
			delete(cues.items, c.Number)
			cueConflicts[c.Number] = true
		}
	}
	conflicts := tellItems(slices.Sorted(maps.Keys(sceneConflicts)), slices.Sorted(maps.Keys(cueConflicts)))
	return api.ShowProject{Scenes: scenes.ascending(), Cues: cues.ascending()}, conflicts
}

// Merged returns the merged project of an old one and of two others, and tells the conflicts.
func Merged(old, a, b api.ShowProject) (api.ShowProject, []string, api.Errno) {
	e := firstError(projected(old), projected(a), projected(b), sameChannels(old, a, b))
	if e != api.OK {
		return api.ShowProject{}, nil, e
	}
	p, conflicts := mergedOf(old, a, b)
	if len(p.Scenes) > api.MaxShowScenes || len(p.Cues) > api.MaxShowCues {
		return api.ShowProject{}, nil, api.ErrFull
	}
	return copied(p), conflicts, api.OK
}
