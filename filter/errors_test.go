package filter_test

import (
	"testing"

	"shoebox/api"
	"shoebox/filter"
)

// sectionCall is a function with a section; its further arguments are right, or wrong. It tells whether its result is nothing.
type sectionCall func(s api.FilterSection, isRight bool) (bool, api.Errno)

// cascadeCall is the same with a cascade.
type cascadeCall func(c []api.FilterSection, isRight bool) (bool, api.Errno)

// choose is a right value, or a wrong one.
func choose[T any](isRight bool, right, wrong T) T {
	if isRight {
		return right
	}
	return wrong
}

// told tells whether a result is nothing.
func told[T comparable](result T, e api.Errno) (bool, api.Errno) {
	var nothing T
	return result == nothing, e
}

// toldBoth tells whether two results are nothing.
func toldBoth[T, U comparable](a T, b U, e api.Errno) (bool, api.Errno) {
	var noA T
	var noB U
	return a == noA && b == noB, e
}

// toldList tells whether a list has nothing.
func toldList[T any](l []T, e api.Errno) (bool, api.Errno) { return len(l) == 0, e }

// aTurn is a right turn, or a wrong one.
func aTurn(isRight bool) api.FilterTurn { return turn(choose(isRight, 1, 2), 0, 1) }

func sectionCalls() map[string]sectionCall {
	return map[string]sectionCall{
		"IsStable":    func(s api.FilterSection, _ bool) (bool, api.Errno) { return told(filter.IsStable(s)) },
		"Reflections": func(s api.FilterSection, _ bool) (bool, api.Errno) { return told(filter.Reflections(s)) },
		"Stabilised": func(s api.FilterSection, isRight bool) (bool, api.Errno) {
			return toldBoth(filter.Stabilised(s, choose(isRight, 2, -1)))
		},
		"BoundOf": func(s api.FilterSection, isRight bool) (bool, api.Errno) {
			return told(filter.BoundOf(s, choose(isRight, 100, -1)))
		},
		"CycleOf": func(s api.FilterSection, isRight bool) (bool, api.Errno) {
			return told(filter.CycleOf(s, [2]int{1, choose(isRight, 0, loud+1)}))
		},
		"CompareGain": func(s api.FilterSection, isRight bool) (bool, api.Errno) {
			return told(filter.CompareGain(s, aTurn(isRight), frac(2, choose(isRight, 1, 2))))
		},
		"GainSquare": func(s api.FilterSection, isRight bool) (bool, api.Errno) {
			return told(filter.GainSquare(s, aTurn(isRight)))
		},
	}
}

func cascadeCalls() map[string]cascadeCall {
	return map[string]cascadeCall{
		"CascadeBound": func(c []api.FilterSection, isRight bool) (bool, api.Errno) {
			return told(filter.CascadeBound(c, choose(isRight, 100, -1)))
		},
		"NewState": func(c []api.FilterSection, _ bool) (bool, api.Errno) { return toldList(filter.NewState(c)) },
		"Run": func(c []api.FilterSection, isRight bool) (bool, api.Errno) {
			b, s, n, e := filter.Run(c, block(100, choose[float32](isRight, 0, 0.5)), states(state(1, 2, 3, choose(isRight, 4, loud+1))))
			return b == api.Block{} && len(s) == 0 && n == 0, e
		},
		"RunAll": func(c []api.FilterSection, isRight bool) (bool, api.Errno) {
			l, n, e := filter.RunAll(c, samples(100, choose[float32](isRight, 0, 0.5)))
			return len(l) == 0 && n == 0, e
		},
		"Impulse": func(c []api.FilterSection, isRight bool) (bool, api.Errno) {
			return toldList(filter.Impulse(c, 100, choose(isRight, 3, -1)))
		},
		"GainRange": func(c []api.FilterSection, isRight bool) (bool, api.Errno) {
			return told(filter.GainRange(c, aTurn(isRight)))
		},
	}
}

// wrongSections has a coefficient that is too great, in each of the places.
func wrongSections() []api.FilterSection {
	var l []api.FilterSection
	for _, n := range list(mostPart+1, -mostPart-1, greatestInt, leastInt, -greatestInt) {
		l = append(l, section(n, 0, 0, 0, 0), section(0, n, 0, 0, 0), section(0, 0, n, 0, 0), fed(n, 0), fed(0, n))
	}
	return l
}

// P6.1 to P6.6: the errors of a section come first, and with them nothing else.
func TestSectionErrors(t *testing.T) {
	for name, f := range sectionCalls() {
		for _, s := range wrongSections() {
			for _, isRight := range []bool{true, false} {
				isNothing, e := f(s, isRight)
				wantSame(t, name, isNothing, e, true, api.ErrRange)
			}
		}
		isNothing, e := f(half(), true)
		wantSame(t, name+" of the example", isNothing, e, false, api.OK)
	}
}

// P6.1 to P6.6: the errors of a cascade come first, and with them nothing else.
func TestCascadeErrors(t *testing.T) {
	for name, f := range cascadeCalls() {
		for _, isRight := range []bool{true, false} {
			for _, s := range wrongSections() {
				isNothing, e := f(cascade(pass(), s), isRight)
				wantSame(t, name, isNothing, e, true, api.ErrRange)
			}
			isNothing, e := f(repeated(7, pass()), isRight)
			wantSame(t, name+" of too many", isNothing, e, true, api.ErrLarge)
			isNothing, e = f(repeated(7, fed(leastInt, 0)), isRight)
			wantSame(t, name+" of too many wrong ones", isNothing, e, true, api.ErrLarge)
		}
		isNothing, e := f(cascade(half()), true)
		wantSame(t, name+" of the example", isNothing, e, false, api.OK)
	}
}

// P6.2: FirstUnstable and CheckState have the error of the cascade without its number.
func TestNumberedErrors(t *testing.T) {
	for _, s := range wrongSections() {
		c := cascade(fed(one, 0), pass(), s)
		n, e := filter.FirstUnstable(c)
		wantWrong(t, "FirstUnstable", n, e, api.ErrRange)
		n, e = filter.CheckState(c, states(state(0, 0, 0, 0), state(0, 0, 0, loud+1)))
		wantWrong(t, "CheckState", n, e, api.ErrRange)
		n, e = filter.CheckState(c, nil)
		wantWrong(t, "CheckState of no states", n, e, api.ErrRange)
	}
	n, e := filter.FirstUnstable(repeated(7, fed(one, 0)))
	wantWrong(t, "FirstUnstable of too many", n, e, api.ErrLarge)
	n, e = filter.CheckState(repeated(7, pass()), nil)
	wantWrong(t, "CheckState of too many", n, e, api.ErrLarge)
}

// P6.6: what is no turn.
func TestTurnErrors(t *testing.T) {
	wrong := func(x api.FilterTurn, want api.Errno) {
		t.Helper()
		f, e := filter.GainSquare(half(), x)
		wantWrong(t, "GainSquare", f, e, want)
		n, e := filter.CompareGain(half(), x, frac(2, 2))
		wantWrong(t, "CompareGain", n, e, want)
		r, e := filter.GainRange(cascade(half()), x)
		wantWrong(t, "GainRange", r, e, want)
		r, e = filter.GainRange(nil, x)
		wantWrong(t, "GainRange of nothing", r, e, want)
	}
	for _, r := range list(0, -1, -100, 101, greatestInt, leastInt) {
		wrong(turn(r, 0, r), api.ErrRange)
		wrong(turn(7, 7, r), api.ErrRange)
		wrong(turn(leastInt, leastInt, r), api.ErrRange)
	}
	for _, x := range []api.FilterTurn{
		turn(0, 0, 1), turn(1, 1, 1), turn(2, 0, 1), turn(0, -2, 1), turn(3, 4, 6), turn(3, 5, 5), turn(4, 4, 5), turn(60, 80, 99),
		turn(100, 1, 100), turn(leastInt, 0, 100), turn(0, leastInt, 1), turn(greatestInt, greatestInt, 5),
		// the squares of these would be right without their upper bits
		turn(1<<32, 1, 1), turn(1, 1<<32, 1), turn(-1<<32, 100, 100), turn(leastInt, 5, 5), turn(5, leastInt, 5),
		turn(greatestInt, 0, 1), turn(0, -greatestInt, 1),
	} {
		wrong(x, api.ErrShape)
	}
	for _, x := range []api.FilterTurn{turn(1, 0, 1), turn(0, -100, 100), turn(-3, 4, 5), turn(60, -80, 100), turn(28, 96, 100)} {
		_, e := filter.GainSquare(pass(), x)
		wantSame(t, "GainSquare", 0, e, 0, api.OK)
	}
}
