package show

import (
	"slices"

	"shoebox/api"
)

// floor divides rounding down, nearest to the nearest number, halves up; by is above 0.
func floor(n, by int) int   { return (n - (n%by+by)%by) / by }
func nearest(n, by int) int { return floor(2*n+by, 2*by) }

// levelsOf is the levels of a fade at its step.
func levelsOf(x api.ShowFade) []int {
	levels := slices.Clone(x.To)
	if x.Step == x.Steps {
		return levels
	}
	for i, from := range x.From {
		levels[i] = from + nearest((x.To[i]-from)*x.Step, x.Steps)
	}
	return levels
}

// FadeAt returns the levels of a fade at its step.
func FadeAt(x api.ShowFade) ([]int, api.Errno) {
	e := firstError(
		leveled(x.From),
		leveled(x.To),
		refuse(len(x.From) != len(x.To), api.ErrClash),
		stepped(x.Steps),
		within(x.Step, 0, x.Steps),
	)
	if e != api.OK {
		return nil, e
	}
	return levelsOf(x), api.OK
}

// CheckMoves returns the first error of moves, and the number of the move that has it.
func CheckMoves(l []api.ShowMove) (int, api.Errno) {
	if len(l) > api.MaxShowMoves {
		return 0, api.ErrLarge
	}
	return firstWrong(len(l), func(i int) api.Errno {
		m := l[i]
		return firstError(
			ticked(m.Tick),
			refuse(i > 0 && m.Tick < l[i-1].Tick, api.ErrOrder),
			leveled(m.Levels),
			refuse(len(m.Levels) != len(l[0].Levels), api.ErrClash),
			stepped(m.Steps),
		)
	})
}

// levelsAt is the levels that right moves have at a tick.
func levelsAt(l []api.ShowMove, tick int) []int {
	if len(l) == 0 {
		return nil
	}
	levels := make([]int, len(l[0].Levels))
	for i, m := range l {
		if m.Tick > tick {
			break
		}
		until := tick
		if i+1 < len(l) {
			until = min(until, l[i+1].Tick)
		}
		levels = levelsOf(api.ShowFade{From: levels, To: m.Levels, Steps: m.Steps, Step: min(until-m.Tick, m.Steps)})
	}
	return levels
}

// LevelsAt returns the levels that moves have at a tick.
func LevelsAt(l []api.ShowMove, tick int) ([]int, api.Errno) {
	if e := firstError(unnumbered(CheckMoves(l)), within(tick, 0, 2*api.MaxMinute)); e != api.OK {
		return nil, e
	}
	return levelsAt(l, tick), api.OK
}

// StillFrom returns the tick from which on levels do not change.
func StillFrom(l []api.ShowMove) (int, api.Errno) {
	if e := firstError(unnumbered(CheckMoves(l)), refuse(len(l) == 0, api.ErrNone)); e != api.OK {
		return 0, e
	}
	last := l[len(l)-1]
	return last.Tick + last.Steps, api.OK
}
