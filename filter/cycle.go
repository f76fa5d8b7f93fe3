package filter

import "shoebox/api"

// CycleOf returns from which step on the last two outputs of a section without an input come again, and behind how many steps.
func CycleOf(s api.FilterSection, y [2]int) (api.FilterCycle, api.Errno) {
	if e := firstError(CheckSection(s), allSmall(y[:], api.MaxSample)); e != api.OK {
		return api.FilterCycle{}, e
	}
	one := stage{s, api.FilterState{Y: y}}
	stepOf := map[[2]int]int{}
	for step := range api.MaxFilterSteps + 1 {
		if from, ok := stepOf[one.Y]; ok {
			return api.FilterCycle{From: from, Length: step - from}, api.OK
		}
		stepOf[one.Y] = step
		one.give(0)
	}
	return api.FilterCycle{}, api.ErrLarge
}
