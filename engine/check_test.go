package engine_test

import (
	"math/rand"
	"slices"
	"strconv"
	"testing"

	"shoebox/api"
	"shoebox/engine"
)

// wrongGraph is a graph, and the error of CheckGraph.
type wrongGraph struct {
	name  string
	g     api.EngineGraph
	unit  int
	errno api.Errno
}

// spoiled is the graph of the examples with a unit that was changed.
func spoiled(unit int, spoil func(u *api.EngineUnit)) api.EngineGraph {
	g := plain()
	spoil(&g.Units[unit])
	return g
}

// wide is a graph with so many inputs, and a sum of the first so many of them.
func wide(inputs, count int) api.EngineGraph {
	units := slices.Repeat([]api.EngineUnit{input()}, inputs)
	var l []taken
	for i := range count {
		l = append(l, taken{i, 0, 1000})
	}
	return graphOf(append(units, sum(l...))...)
}

// long is a row of so many units.
func long(count int) api.EngineGraph {
	units := []api.EngineUnit{input()}
	for i := 1; i < count; i++ {
		units = append(units, output(i-1, 0))
	}
	return graphOf(units...)
}

func called(name string) api.EngineGraph {
	g := plain()
	g.Name = name
	return g
}

func calledUnit(name string) api.EngineGraph {
	return spoiled(1, func(u *api.EngineUnit) { u.Name = name })
}

// wrongNames is texts that are no names.
func wrongNames() []string {
	return []string{"", "abcdefghijklm", "1a", "-a", "a b", "aä", "a\xff", "a[", "@", "a`", "{", "a/", "a:", "_a", "a_", "a\n", "é", "-", "0"}
}

func wrongOnes() []wrongGraph {
	many := long(25)
	many.Units[0].Name = ""
	nameless := called("")
	nameless.Units = long(25).Units
	l := []wrongGraph{
		{"too many units, the first one wrong", many, 0, api.ErrLarge},
		{"no name ahead of too many units", nameless, 0, api.ErrName},
		{"a unit stand", calledUnit("stand"), 1, api.ErrName},
		{"a name of before", calledUnit("mic"), 1, api.ErrExists},
		{"a name of before, at the end", spoiled(3, func(u *api.EngineUnit) { u.Name = "d" }), 3, api.ErrExists},
		{"a name of before ahead of a kind", spoiled(1, func(u *api.EngineUnit) { u.Name, u.Kind = "mic", 9 }), 1, api.ErrExists},
		{"the first one of two wrong ones", spoiled(1, func(u *api.EngineUnit) { u.Name, u.Kind = "mix", 9 }), 1, api.ErrKind},
	}
	for _, name := range wrongNames() {
		l = append(l, wrongGraph{"the name " + name, called(name), 0, api.ErrName}, wrongGraph{"the unit " + name, calledUnit(name), 1, api.ErrName})
	}
	for _, kind := range list(-1, 5, greatestInt, leastInt) {
		l = append(l, wrongGraph{"kind", spoiled(2, func(u *api.EngineUnit) { u.Kind = kind }), 2, api.ErrKind})
	}
	return slices.Concat(l, wrongShapes(), wrongUnits(), wrongRanges())
}

func wrongShapes() []wrongGraph {
	shapes := []func(u *api.EngineUnit){
		func(u *api.EngineUnit) { u.From = nil },
		func(u *api.EngineUnit) { u.Align = nil },
		func(u *api.EngineUnit) { u.From, u.Align = nil, nil },
		func(u *api.EngineUnit) { u.From = list(0, 1, 2) },
		func(u *api.EngineUnit) { u.Align = append(slices.Clone(u.Align), 0) },
		func(u *api.EngineUnit) { u.Gains = append(slices.Clone(u.Gains), 0) },
	}
	var l []wrongGraph
	for i, spoil := range shapes {
		for unit := 1; unit < 4; unit++ {
			l = append(l, wrongGraph{"shape " + strconv.Itoa(i), spoiled(unit, spoil), unit, api.ErrShape})
		}
		l = append(l, wrongGraph{"filter " + strconv.Itoa(i), graphOf(input(), changed(filtered(0, 0), spoil)), 1, api.ErrShape})
	}
	for _, kind := range list(api.UnitDelay, api.UnitFilter, api.UnitOutput) {
		u := single(kind, 0, 0)
		u.From, u.Align = list(0, 1), list(0, 0)
		l = append(l, wrongGraph{"two for one", graphOf(input(), input(), u), 2, api.ErrShape})
	}
	fed := input()
	fed.From, fed.Align = list(0), list(0)
	aligned := input()
	aligned.Align = list(0)
	gained := input()
	gained.Gains = list(0)
	return append(l,
		wrongGraph{"seven for a sum", wide(7, 7), 7, api.ErrShape},
		wrongGraph{"no gains", spoiled(2, func(u *api.EngineUnit) { u.Gains = nil }), 2, api.ErrShape},
		wrongGraph{"one gain", spoiled(2, func(u *api.EngineUnit) { u.Gains = list(1) }), 2, api.ErrShape},
		wrongGraph{"an input that takes", graphOf(input(), fed), 1, api.ErrShape},
		wrongGraph{"an aligned input", graphOf(aligned), 0, api.ErrShape},
		wrongGraph{"an input with a gain", graphOf(gained), 0, api.ErrShape},
		wrongGraph{"a kind ahead of a shape", spoiled(2, func(u *api.EngineUnit) { u.Gains, u.Kind = nil, 5 }), 2, api.ErrKind},
		wrongGraph{"a shape ahead of what is missing", spoiled(2, func(u *api.EngineUnit) { u.Gains, u.From = nil, list(0, 9) }), 2, api.ErrShape},
		wrongGraph{"a cascade of a sum", spoiled(2, withHalf), 2, api.ErrShape},
		wrongGraph{"a cascade of an input", spoiled(0, withHalf), 0, api.ErrShape},
		wrongGraph{"a cascade of a delay", spoiled(1, withHalf), 1, api.ErrShape},
		wrongGraph{"a cascade of an output", spoiled(3, withHalf), 3, api.ErrShape},
	)
}

func changed(u api.EngineUnit, change func(u *api.EngineUnit)) api.EngineUnit {
	change(&u)
	return u
}

func withHalf(u *api.EngineUnit) { u.Cascade = append(u.Cascade, half()) }

func wrongUnits() []wrongGraph {
	var l []wrongGraph
	for _, n := range list(-1, -2, 4, greatestInt, leastInt) {
		l = append(l,
			wrongGraph{"from", spoiled(1, func(u *api.EngineUnit) { u.From = list(n) }), 1, api.ErrMissing},
			wrongGraph{"from, the second one", spoiled(2, func(u *api.EngineUnit) { u.From = list(1, n) }), 2, api.ErrMissing},
			wrongGraph{"missing ahead of twice", spoiled(2, func(u *api.EngineUnit) { u.From = list(n, n) }), 2, api.ErrMissing},
		)
		if n != nobody {
			l = append(l,
				wrongGraph{"stand", spoiled(0, func(u *api.EngineUnit) { u.Stand = n }), 0, api.ErrMissing},
				wrongGraph{"a stand ahead of twice", spoiled(2, func(u *api.EngineUnit) { u.From, u.Stand = list(1, 1), n }), 2, api.ErrMissing},
			)
		}
	}
	return append(l,
		wrongGraph{"twice", spoiled(2, func(u *api.EngineUnit) { u.From = list(1, 1) }), 2, api.ErrDouble},
		wrongGraph{"twice apart", graphOf(input(), input(), sum(taken{0, 0, 1}, taken{1, 0, 1}, taken{0, 5, 2})), 2, api.ErrDouble},
		wrongGraph{"twice ahead of a range", spoiled(2, func(u *api.EngineUnit) { u.From, u.Align[0] = list(1, 1), -1 }), 2, api.ErrDouble},
	)
}

func wrongRanges() []wrongGraph {
	var l []wrongGraph
	for _, n := range list(-1, mostDelay+1, greatestInt, leastInt) {
		l = append(l,
			wrongGraph{"align", spoiled(1, func(u *api.EngineUnit) { u.Align[0] = n }), 1, api.ErrRange},
			wrongGraph{"align, the second one", spoiled(2, func(u *api.EngineUnit) { u.Align[1] = n }), 2, api.ErrRange},
			wrongGraph{"delay", spoiled(1, func(u *api.EngineUnit) { u.Delay = n }), 1, api.ErrRange},
		)
	}
	for _, n := range list(-mostGain-1, mostGain+1, greatestInt, leastInt) {
		l = append(l, wrongGraph{"gain", spoiled(2, func(u *api.EngineUnit) { u.Gains[1] = n }), 2, api.ErrRange})
	}
	for _, unit := range list(0, 2, 3) {
		l = append(l, wrongGraph{"no delay", spoiled(unit, func(u *api.EngineUnit) { u.Delay = 1 }), unit, api.ErrRange})
	}
	slow := filtered(0, 0)
	slow.Delay = 1
	tooLoud := section(2*one+1, 0, 0, 0, 0)
	return append(l,
		wrongGraph{"a filter's delay", graphOf(input(), slow), 1, api.ErrRange},
		wrongGraph{"a filter's delay ahead of its cascade", graphOf(input(), changed(slow, func(u *api.EngineUnit) { u.Cascade = make([]api.FilterSection, 7) })), 1, api.ErrRange},
		wrongGraph{"a range ahead of a cascade", spoiled(2, func(u *api.EngineUnit) { u.Gains[0] = 4001; withHalf(u) }), 2, api.ErrRange},
		wrongGraph{"a section", graphOf(input(), filtered(0, 0, half(), tooLoud)), 1, api.ErrRange},
		wrongGraph{"too many sections", graphOf(input(), filtered(0, 0, slices.Repeat([]api.FilterSection{tooLoud}, 7)...)), 1, api.ErrLarge},
	)
}

// rightOnes is graphs at the edges of what is allowed.
func rightOnes() []api.EngineGraph {
	sharp := graphOf(
		input(),
		delay(0, mostDelay, mostDelay),
		sum(taken{0, mostDelay, mostGain}, taken{1, 0, -mostGain}),
		filtered(2, mostDelay, slices.Repeat([]api.FilterSection{double()}, 6)...),
		filtered(3, 0),
		behind(3, output(4, mostDelay)),
	)
	return []api.EngineGraph{
		{Name: "g"}, {Name: "stand", Units: []api.EngineUnit{}}, called("graph"), called("Zz-abcdA0Yy9"), calledUnit("Stand"), calledUnit("cascade"), calledUnit("z-9"),
		plain(), covered(), long(24), wide(23, 6), wide(1, 1), sharp,
		// circles are not looked for
		graphOf(output(0, 0)), graphOf(behind(0, input())), graphOf(output(1, 0), output(0, 0)), graphOf(behind(1, input()), output(0, 0)),
	}
}

// P9.1: right graphs have no error.
func TestRightGraphs(t *testing.T) {
	for _, g := range rightOnes() {
		n, e := engine.CheckGraph(g)
		wantSame(t, "CheckGraph", n, e, 0, api.OK)
	}
	r := rand.New(rand.NewSource(1))
	for range 300 {
		n, e := engine.CheckGraph(anyGraph(r, 24))
		wantSame(t, "CheckGraph", n, e, 0, api.OK)
	}
}

// P9.1: wrong graphs, and the order of errors.
func TestWrongGraphs(t *testing.T) {
	for _, c := range wrongOnes() {
		n, e := engine.CheckGraph(c.g)
		wantSame(t, "CheckGraph: "+c.name, n, e, c.unit, c.errno)
	}
}
