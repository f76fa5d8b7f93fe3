package engine

import (
	"slices"

	"shoebox/api"
	"shoebox/filter"
)

// CheckGraph returns the first error of a graph, and the number of the unit that has it.
func CheckGraph(g api.EngineGraph) (int, api.Errno) {
	unit, e := graphError(g)
	return max(unit, 0), e
}

// graphError is the first error of a graph, and the unit that has it, or nobody.
func graphError(g api.EngineGraph) (int, api.Errno) {
	switch {
	case !isName(g.Name):
		return nobody, api.ErrName
	case len(g.Units) > api.MaxEngineUnits:
		return nobody, api.ErrLarge
	}
	names := map[string]bool{}
	for i, u := range g.Units {
		if e := unitError(u, names, len(g.Units)); e != api.OK {
			return i, e
		}
		names[u.Name] = true
	}
	return nobody, api.OK
}

// unitError is the first error of a unit behind those that have some names, in a graph of so many units.
func unitError(u api.EngineUnit, names map[string]bool, count int) api.Errno {
	isUnit := func(n int) bool { return isWithin(n, 0, count-1) }
	switch {
	case !isName(u.Name) || u.Name == standWord:
		return api.ErrName
	case names[u.Name]:
		return api.ErrExists
	case !isWithin(u.Kind, api.UnitInput, api.UnitOutput):
		return api.ErrKind
	case !hasShape(u):
		return api.ErrShape
	case !areWithin(u.From, 0, count-1) || u.Stand != nobody && !isUnit(u.Stand):
		return api.ErrMissing
	case hasDouble(u.From):
		return api.ErrDouble
	case !isInRange(u):
		return api.ErrRange
	}
	return cascadeError(u)
}

// hasShape tells whether the lists of a unit, but for its cascade, are as long as its kind allows.
func hasShape(u api.EngineUnit) bool {
	least, most, gains := 1, 1, 0
	switch u.Kind {
	case api.UnitInput:
		least, most = 0, 0
	case api.UnitSum:
		most, gains = api.MaxEngineInputs, len(u.From)
	}
	return isWithin(len(u.From), least, most) && len(u.Align) == len(u.From) && len(u.Gains) == gains
}

func hasDouble(l []int) bool {
	for i, n := range l {
		if slices.Contains(l[:i], n) {
			return true
		}
	}
	return false
}

func isInRange(u api.EngineUnit) bool {
	most := 0
	if u.Kind == api.UnitDelay {
		most = api.MaxEngineDelay
	}
	return areWithin(u.Align, 0, api.MaxEngineDelay) &&
		areWithin(u.Gains, -api.MaxEngineGain, api.MaxEngineGain) &&
		isWithin(u.Delay, 0, most)
}

func cascadeError(u api.EngineUnit) api.Errno {
	if u.Kind != api.UnitFilter {
		if len(u.Cascade) > 0 {
			return api.ErrShape
		}
		return api.OK
	}
	_, e := filter.NewState(u.Cascade)
	return e
}
