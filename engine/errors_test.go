package engine_test

import (
	"testing"

	"shoebox/api"
	"shoebox/engine"
)

// graphCall is a function with a graph; its further arguments are right for the graph of the examples, or wrong. It tells its result, and what it would be if there were nothing.
type graphCall func(g api.EngineGraph, isRight bool) (result, nothing any, e api.Errno)

// told is a result with one of its type that has nothing.
func told[T any](result T, e api.Errno) (any, any, api.Errno) {
	var nothing T
	return result, nothing, e
}

// choose is a right value, or a wrong one.
func choose[T any](isRight bool, right, wrong T) T {
	if isRight {
		return right
	}
	return wrong
}

// begun is the state of the graph of the examples ahead of all blocks, or one that is none.
func begun(isRight bool) api.EngineState {
	var s api.EngineState
	for range 4 {
		s.Past = append(s.Past, make([]float32, past))
		s.Filters = append(s.Filters, nil)
	}
	s.Blocks = choose(isRight, 0, -1)
	return s
}

func someFaults(isRight bool) []api.EngineFault { return faults(fault(choose(isRight, 0, 9), 1)) }

func someDeal(isRight bool) [][]int { return rows(list(0, 2), list(1, choose(isRight, 3, 9))) }

func someTape(isRight bool) [][]api.Block {
	return tape(blocks(constant(choose[float32](isRight, 1000, 0.5), 0)))
}

func graphCalls() map[string]graphCall {
	return map[string]graphCall{
		"Order": func(g api.EngineGraph, _ bool) (any, any, api.Errno) { return told(engine.Order(g)) },
		"CheckOrder": func(g api.EngineGraph, isRight bool) (any, any, api.Errno) {
			return 0, 0, engine.CheckOrder(g, choose(isRight, list(0, 1, 2, 3), nil))
		},
		"Stages": func(g api.EngineGraph, _ bool) (any, any, api.Errno) { return told(engine.Stages(g)) },
		"CheckLatencies": func(g api.EngineGraph, isRight bool) (any, any, api.Errno) {
			return 0, 0, engine.CheckLatencies(g, choose(isRight, list(0, 3, 3, 3), nil))
		},
		"CheckUnequal": func(g api.EngineGraph, isRight bool) (any, any, api.Errno) {
			return told(engine.CheckUnequal(g, [2][]int{list(0, 2), choose(isRight, list(0, 1, 2), nil)}))
		},
		"Compensated": func(g api.EngineGraph, _ bool) (any, any, api.Errno) { return told(engine.Compensated(g)) },
		"CheckFaults": func(g api.EngineGraph, isRight bool) (any, any, api.Errno) {
			return told(engine.CheckFaults(g, someFaults(isRight)))
		},
		"Standing": func(g api.EngineGraph, isRight bool) (any, any, api.Errno) {
			return told(engine.Standing(g, someFaults(isRight), choose(isRight, 0, 17)))
		},
		"Weak":  func(g api.EngineGraph, _ bool) (any, any, api.Errno) { return told(engine.Weak(g)) },
		"Start": func(g api.EngineGraph, _ bool) (any, any, api.Errno) { return told(engine.Start(g)) },
		"CheckState": func(g api.EngineGraph, isRight bool) (any, any, api.Errno) {
			return 0, 0, engine.CheckState(g, begun(isRight))
		},
		"Step": func(g api.EngineGraph, isRight bool) (any, any, api.Errno) {
			y, s, e := engine.Step(g, begun(isRight), api.EngineInput{Blocks: someTape(isRight)[0], Failed: list(choose(isRight, 3, 9))})
			return []any{y, s}, []any{api.EngineOutput{}, api.EngineState{}}, e
		},
		"Run": func(g api.EngineGraph, isRight bool) (any, any, api.Errno) {
			out, cuts, e := engine.Run(g, someTape(isRight), someFaults(isRight))
			return played{out, cuts}, played{}, e
		},
		"CheckDeal": func(g api.EngineGraph, isRight bool) (any, any, api.Errno) {
			return told(engine.CheckDeal(g, someDeal(isRight)))
		},
		"Dealt": func(g api.EngineGraph, isRight bool) (any, any, api.Errno) {
			out, cuts, e := engine.Dealt(g, someDeal(isRight), api.EngineTape{In: someTape(isRight), Faults: someFaults(isRight)})
			return played{out, cuts}, played{}, e
		},
	}
}

// evenCalls is functions that have an error if latencies are equal, or if they are not.
func evenCalls() map[string]graphCall {
	return map[string]graphCall{
		"Latencies": func(g api.EngineGraph, _ bool) (any, any, api.Errno) { return told(engine.Latencies(g)) },
		"Unequal":   func(g api.EngineGraph, _ bool) (any, any, api.Errno) { return told(engine.Unequal(g)) },
	}
}

// wantNothing tests a function for an error, beside which there is nothing.
func wantNothing(t *testing.T, name string, f graphCall, g api.EngineGraph, want api.Errno) {
	t.Helper()
	for _, isRight := range []bool{true, false} {
		result, nothing, e := f(g, isRight)
		wantSame(t, name, result, e, nothing, want)
	}
}

// circles is right graphs with a circle.
func circles() []api.EngineGraph {
	around := plain()
	around.Units[1].From = list(2)
	behindMix := plain()
	behindMix.Units[0].Stand = 3
	forItself := plain()
	forItself.Units[3].Stand = 3
	apart := plain()
	apart.Units = append(apart.Units, named("x", output(5, 0)), named("y", output(4, 0)))
	return []api.EngineGraph{
		around, behindMix, forItself, apart,
		graphOf(output(0, 0)), graphOf(behind(0, input())), graphOf(output(1, 0), output(0, 0)),
		graphOf(behind(1, input()), behind(2, input()), behind(0, input())),
		graphOf(input(), sum(taken{0, 0, 1}, taken{1, 0, 1})),
	}
}

// P9.1 to P9.5: the errors of a graph come first, then ErrCycle, and with them nothing else.
func TestGraphErrors(t *testing.T) {
	for _, calls := range []map[string]graphCall{graphCalls(), evenCalls()} {
		for name, f := range calls {
			for _, c := range wrongOnes() {
				wantNothing(t, name+": "+c.name, f, c.g, c.errno)
			}
			for _, g := range circles() {
				wantNothing(t, name+" of a circle", f, g, api.ErrCycle)
			}
			around := circles()[0]
			around.Units[3].Name = ""
			wantNothing(t, name+" of a wrong circle", f, around, api.ErrName)
		}
	}
	for name, f := range graphCalls() {
		g := plain()
		if name == "CheckLatencies" {
			g, _ = engine.Compensated(g)
		}
		_, _, e := f(g, true)
		wantErrno(t, name+" of the example", e, api.OK)
	}
}

// P9.6: Print has the error of CheckGraph, and no error for circles.
func TestPrintErrors(t *testing.T) {
	for _, c := range wrongOnes() {
		s, e := engine.Print(c.g)
		wantWrong(t, "Print: "+c.name, s, e, c.errno)
	}
	for _, g := range circles() {
		s, e := engine.Print(g)
		wantErrno(t, "Print of a circle", e, api.OK)
		back, m, e := engine.Parse(s)
		wantSame(t, "Parse of a circle", back, e, g, api.OK)
		wantSame(t, "its mark", m, e, api.TextMark{}, api.OK)
	}
}
