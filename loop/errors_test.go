package loop_test

import (
	"testing"

	"shoebox/api"
	"shoebox/loop"
)

// loopCall is a function with a loop; its further arguments are right, or wrong. It tells whether its result is nothing.
type loopCall func(l api.Loop, isRight bool) (bool, api.Errno)

// told tells whether a result is nothing.
func told[T comparable](result T, e api.Errno) (bool, api.Errno) {
	var nothing T
	return result == nothing, e
}

// choose is a right value, or a wrong one.
func choose[T any](isRight bool, right, wrong T) T {
	if isRight {
		return right
	}
	return wrong
}

func loopCalls() map[string]loopCall {
	return map[string]loopCall{
		"CheckLoop": func(l api.Loop, _ bool) (bool, api.Errno) { return true, loop.CheckLoop(l) },
		"ValueAt": func(l api.Loop, isRight bool) (bool, api.Errno) {
			return told(loop.ValueAt(l, choose(isRight, 0, 1000001)))
		},
		"ArcBall": func(l api.Loop, isRight bool) (bool, api.Errno) {
			return told(loop.ArcBall(l, choose(isRight, arc(0, half), arc(5, 4))))
		},
		"CheckArcs": func(l api.Loop, isRight bool) (bool, api.Errno) {
			return told(loop.CheckArcs(l, choose(isRight, arcs(arc(0, half)), make([]api.LoopArc, 513))))
		},
		"CheckRings": func(l api.Loop, isRight bool) (bool, api.Errno) {
			return true, loop.CheckRings(l, choose(isRight, arc(0, 0), arc(-1, 0)))
		},
		"Decide": func(l api.Loop, _ bool) (bool, api.Errno) {
			p, e := loop.Decide(l)
			return sameProof(p, api.LoopProof{}), e
		},
		"SizeOf": func(l api.Loop, _ bool) (bool, api.Errno) { return told(loop.SizeOf(l)) },
		"Scaled": func(l api.Loop, isRight bool) (bool, api.Errno) {
			s, e := loop.Scaled(l, choose(isRight, 1, 4001))
			return sameLoop(s, api.Loop{}), e
		},
		"Echoes": func(l api.Loop, isRight bool) (bool, api.Errno) {
			echoes, e := loop.Echoes(l, choose(isRight, 1, 40000), choose(isRight, 5, -1))
			return len(echoes) == 0, e
		},
		"EchoBound": func(l api.Loop, isRight bool) (bool, api.Errno) {
			return told(loop.EchoBound(l, choose(isRight, 100, 40000)))
		},
	}
}

// P8.1 to P8.4: the errors of a loop come first, and with them nothing else.
func TestLoopErrors(t *testing.T) {
	for name, f := range loopCalls() {
		for _, c := range wrongLoops() {
			for _, isRight := range []bool{true, false} {
				isNothing, e := f(c.loop, isRight)
				wantSame(t, name, isNothing, e, true, c.want)
			}
		}
	}
}
