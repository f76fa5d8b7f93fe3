package engine

import (
	"slices"
	"strconv"
	"strings"

	"shoebox/api"
)

// never is a block that no tape has.
const never = api.MaxEngineBlocks + 1

// faultError is the first error of faults, and the number of the fault that has it.
func (g *graph) faultError(l []api.EngineFault) (int, api.Errno) {
	if len(l) > api.MaxEngineFaults {
		return 0, api.ErrLarge
	}
	isNamed := make([]bool, len(g.Units))
	for i, f := range l {
		switch {
		case !g.has(f.Unit):
			return i, api.ErrMissing
		case isNamed[f.Unit]:
			return i, api.ErrDouble
		case !isWithin(f.Block, 0, api.MaxEngineBlocks):
			return i, api.ErrRange
		}
		isNamed[f.Unit] = true
	}
	return 0, api.OK
}

// onsets is, for each unit, the block from which on it has failed, or never.
func (g *graph) onsets(l []api.EngineFault) []int {
	onsets := make([]int, len(g.Units))
	for unit := range onsets {
		onsets[unit] = never
	}
	for _, f := range l {
		onsets[f.Unit] = f.Block
	}
	return onsets
}

// standing is who stands in for each unit in a block.
func (g *graph) standing(onsets []int, block int) []int {
	l := make([]int, len(g.Units))
	for _, unit := range g.order {
		stand := g.Units[unit].Stand
		switch {
		case block < onsets[unit]:
			l[unit] = unit
		case stand == nobody:
			l[unit] = nobody
		default:
			l[unit] = l[stand]
		}
	}
	return l
}

// CheckFaults returns the first error of faults of a graph, and the number of the fault that has it.
func CheckFaults(g api.EngineGraph, l []api.EngineFault) (int, api.Errno) {
	v, e := visit(g)
	if e != api.OK {
		return 0, e
	}
	return v.faultError(l)
}

// Standing returns who stands in for each unit in a block.
func Standing(g api.EngineGraph, l []api.EngineFault, block int) ([]int, api.Errno) {
	v, e := visit(g)
	if e != api.OK {
		return nil, e
	}
	if _, e := v.faultError(l); e != api.OK {
		return nil, e
	}
	if !isWithin(block, 0, api.MaxEngineBlocks) {
		return nil, api.ErrRange
	}
	return v.standing(v.onsets(l), block), api.OK
}

// fedWithout tells of each unit whether it is fed, if one of them has failed.
func (g *graph) fedWithout(failed int) []bool {
	fed := make([]bool, len(g.Units))
	standing := g.standing(g.onsets([]api.EngineFault{{Unit: failed}}), 0)
	isFed := func(from int) bool { return standing[from] != nobody && fed[standing[from]] }
	for _, unit := range g.order {
		u := g.Units[unit]
		fed[unit] = unit != failed && (u.Kind == api.UnitInput || slices.ContainsFunc(u.From, isFed))
	}
	return fed
}

// isWeak tells whether some other unit that is an output is not fed without a unit. Without any failure all units are fed, because all ways back end at inputs.
func (g *graph) isWeak(unit int) bool {
	fed := g.fedWithout(unit)
	for _, output := range g.ofKind(api.UnitOutput) {
		if output != unit && !fed[output] {
			return true
		}
	}
	return false
}

// Weak returns the weak units of a graph.
func Weak(g api.EngineGraph) ([]int, api.Errno) {
	v, e := visit(g)
	if e != api.OK {
		return nil, e
	}
	var weak []int
	for unit := range v.Units {
		if v.isWeak(unit) {
			weak = append(weak, unit)
		}
	}
	return weak, api.OK
}

// FormatFault returns the text of a fault, whatever it is.
func FormatFault(f api.EngineFault) string {
	return strconv.Itoa(f.Unit) + blank + strconv.Itoa(f.Block)
}

// ParseFault returns the fault with a text.
func ParseFault(s string) (api.EngineFault, api.Errno) {
	// with a second blank, or without one, the rest is no number
	first, rest, _ := strings.Cut(s, blank)
	unit, isUnit := parseNumber(first)
	block, isBlock := parseNumber(rest)
	if !isUnit || !isBlock {
		return api.EngineFault{}, api.ErrSyntax
	}
	return api.EngineFault{Unit: unit, Block: block}, api.OK
}
