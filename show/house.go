package show

import (
	"slices"

	"shoebox/api"
)

// unproved is the margin of a house whose margin was not proved since something changed.
const unproved = -1

// mayLog tells of each role which kinds of facts it may log.
var mayLog = [...][api.FactSeal + 1]bool{
	api.RoleDirector: {
		api.FactPerson: true, api.FactScene: true, api.FactCue: true, api.FactGo: true,
		api.FactSetting: true, api.FactGains: true, api.FactMargin: true, api.FactFigures: true,
		api.FactFault: true, api.FactRepair: true, api.FactNote: true, api.FactSeal: true,
	},
	api.RoleEngineer: {
		api.FactSetting: true, api.FactGains: true, api.FactMargin: true, api.FactFigures: true,
		api.FactFault: true, api.FactRepair: true, api.FactNote: true,
	},
	api.RoleOperator: {api.FactGo: true, api.FactFault: true, api.FactRepair: true, api.FactNote: true},
	api.RoleGuest:    {api.FactNote: true},
}

// isAllowed tells whether a role may log a kind of facts; a role that is none may log nothing.
func isAllowed(role, kind int) bool {
	return isWithin(role, 0, len(mayLog)-1) && mayLog[role][kind]
}

// house is a state to which facts are applied.
type house struct{ api.ShowState }

// newHouse is a house without facts.
func newHouse() *house { return &house{api.ShowState{Margin: unproved}} }

// copied is a house with memory of its own.
func (h *house) copied() *house {
	c := *h
	c.Persons = slices.Clone(h.Persons)
	c.Project = copied(h.Project)
	c.Moves = nil
	for _, m := range h.Moves {
		c.Moves = append(c.Moves, api.ShowMove{Tick: m.Tick, Levels: slices.Clone(m.Levels), Steps: m.Steps})
	}
	c.Failed = slices.Clone(h.Failed)
	return &c
}

// check is the error of a state that was made by hand.
func (h *house) check() api.Errno {
	e := firstError(
		within(h.Count, 0, api.MaxShowFacts),
		within(h.Sealed, 0, h.Count),
		ticked(h.Tick),
		projected(h.Project),
		unnumbered(CheckMoves(h.Moves)),
		unnumbered(firstWrong(len(h.Failed), func(i int) api.Errno {
			return firstError(unitAt(h.Failed[i]), refuse(i > 0 && h.Failed[i] <= h.Failed[i-1], api.ErrOrder))
		})),
	)
	return refuse(e != api.OK, api.ErrShape)()
}

// log applies a fact; nothing has changed beside an error.
func (h *house) log(f api.ShowFact) api.Errno {
	if h.Count >= api.MaxShowFacts {
		return api.ErrFull
	}
	s, e := saidBy(f)
	if e != api.OK {
		return e
	}
	d := deedOf(f.Kind)
	e = firstError(
		refuse(f.Tick < h.Tick, api.ErrOrder),
		func() api.Errno { return h.admits(s) },
		func() api.Errno { return d.fits(h, s) },
	)
	if e != api.OK {
		return e
	}
	h.Count++
	h.Tick = f.Tick
	d.apply(h, s)
	return api.OK
}

// personAt is the number of the first person with a name, or -1.
func (h *house) personAt(name string) int {
	return slices.IndexFunc(h.Persons, func(p api.ShowPerson) bool { return p.Name == name })
}

// admits is the error of who logs a fact.
func (h *house) admits(s saying) api.Errno {
	if len(h.Persons) == 0 {
		isFounder := s.Kind == api.FactPerson && s.person == api.ShowPerson{Name: s.Who, Role: api.RoleDirector}
		return refuse(!isFounder, api.ErrState)()
	}
	at := h.personAt(s.Who)
	return firstError(
		refuse(at < 0, api.ErrMissing),
		func() api.Errno { return refuse(!isAllowed(h.Persons[at].Role, s.Kind), api.ErrAllowed)() },
	)
}

// Apply returns the state behind one more fact.
func Apply(s api.ShowState, f api.ShowFact) (api.ShowState, api.Errno) {
	h := &house{s}
	if e := h.check(); e != api.OK {
		return api.ShowState{}, e
	}
	h = h.copied()
	if e := h.log(f); e != api.OK {
		return api.ShowState{}, e
	}
	return h.ShowState, api.OK
}
