package figure_test

import (
	"testing"

	"shoebox/api"
	"shoebox/figure"
)

// call is a function with a response or an ask; its further arguments are right for the response of the examples, or wrong. It tells whether its result is nothing.
type call[T any] func(of T, isRight bool) (bool, api.Errno)

// choose is a right number, or a wrong one.
func choose(isRight bool, right, wrong int) int {
	if isRight {
		return right
	}
	return wrong
}

// told tells whether a result is nothing.
func told[T comparable](result T, e api.Errno) (bool, api.Errno) {
	var nothing T
	return result == nothing, e
}

// toldList tells whether a list has nothing.
func toldList[T any](l []T, e api.Errno) (bool, api.Errno) { return len(l) == 0, e }

// responseCalls is the functions that take a response.
func responseCalls() map[string]call[api.Response] {
	return map[string]call[api.Response]{
		"Energy": func(r api.Response, isRight bool) (bool, api.Errno) {
			return told(figure.Energy(r, window(0, choose(isRight, 3, -1))))
		},
		"Sums": func(r api.Response, _ bool) (bool, api.Errno) { return toldList(figure.Sums(r)) },
		"FirstBelow": func(r api.Response, isRight bool) (bool, api.Errno) {
			return told(figure.FirstBelow(r, choose(isRight, 2, 13)))
		},
		"Decay": func(r api.Response, isRight bool) (bool, api.Errno) {
			return told(figure.Decay(r, choose(isRight, 0, 3)))
		},
		"Definition": func(r api.Response, isRight bool) (bool, api.Errno) {
			return told(figure.Definition(r, choose(isRight, 125, -1)))
		},
		"Lateral to the sides": func(r api.Response, isRight bool) (bool, api.Errno) {
			return told(figure.Lateral(r, onlyAt(8000, choose(isRight, 100, 1025), 50, 1)))
		},
		"Lateral": func(r api.Response, isRight bool) (bool, api.Errno) {
			_, e := figure.Lateral(response(choose(isRight, 8000, 9000), 1), r)
			return e != api.OK, e
		},
		"Modulated": func(r api.Response, isRight bool) (bool, api.Errno) {
			return told(figure.Modulated(r, choose(isRight, 1, 0)))
		},
		"Transfer": func(r api.Response, isRight bool) (bool, api.Errno) {
			return told(figure.Transfer(r, choose(isRight, 1, 0)))
		},
	}
}

// askCalls is the functions that take an ask.
func askCalls() map[string]call[api.FigureAsk] {
	return map[string]call[api.FigureAsk]{
		"EnergyWithin": func(a api.FigureAsk, isRight bool) (bool, api.Errno) {
			return told(figure.EnergyWithin(a, window(0, choose(isRight, 3, -1))))
		},
		"SumsWithin": func(a api.FigureAsk, _ bool) (bool, api.Errno) { return toldList(figure.SumsWithin(a)) },
		"DecayWithin": func(a api.FigureAsk, isRight bool) (bool, api.Errno) {
			return told(figure.DecayWithin(a, choose(isRight, 0, 3)))
		},
		"Clarity": func(a api.FigureAsk, isRight bool) (bool, api.Errno) {
			return told(figure.Clarity(a, choose(isRight, 125, -1)))
		},
		"DefinitionWithin": func(a api.FigureAsk, isRight bool) (bool, api.Errno) {
			return told(figure.DefinitionWithin(a, choose(isRight, 125, -1)))
		},
		"Centre":    func(a api.FigureAsk, _ bool) (bool, api.Errno) { return told(figure.Centre(a)) },
		"FiguresOf": func(a api.FigureAsk, _ bool) (bool, api.Errno) { return told(figure.FiguresOf(a)) },
		"Compared with something": func(a api.FigureAsk, isRight bool) (bool, api.Errno) {
			return told(figure.Compared(a, asked(repeated(8000, choose(isRight, 5, 1025), 1), 0, 0)))
		},
		"Compared": func(a api.FigureAsk, _ bool) (bool, api.Errno) {
			return told(figure.Compared(asked(five(), 0, 0), a))
		},
	}
}

// P5.1 to P5.8: the errors of the response come first, then those of further arguments; and with them nothing else.
func TestResponseErrors(t *testing.T) {
	for name, f := range responseCalls() {
		for _, c := range wrongResponses() {
			for _, isRight := range []bool{true, false} {
				isNothing, e := f(c.r, isRight)
				wantSame(t, name+", "+c.name, isNothing, e, true, c.want)
			}
		}
		isNothing, e := f(five(), true)
		wantSame(t, name+" of the example", isNothing, e, false, api.OK)
	}
}

// P5.1 to P5.8: the errors of the ask come first too.
func TestAskErrors(t *testing.T) {
	for name, f := range askCalls() {
		for _, isRight := range []bool{true, false} {
			for _, c := range wrongResponses() {
				isNothing, e := f(asked(c.r, choose(isRight, 0, -1), 0), isRight)
				wantSame(t, name+", "+c.name, isNothing, e, true, c.want)
			}
			for _, c := range wrongAsks() {
				isNothing, e := f(c.a, isRight)
				wantSame(t, name+", "+c.name, isNothing, e, true, api.ErrRange)
			}
		}
		isNothing, e := f(asked(five(), 0, 0), true)
		wantSame(t, name+" of the example", isNothing, e, false, api.OK)
	}
}

// P5.1 to P5.8: an ask of nothing, and one without samples.
func TestEmptyAsk(t *testing.T) {
	for name, f := range askCalls() {
		isNothing, e := f(api.FigureAsk{}, true)
		wantSame(t, name+" of nothing", isNothing, e, true, api.ErrRange)
		isNothing, e = f(asked(response(8000), 1, 1), true)
		wantSame(t, name+" of no samples", isNothing, e, true, api.ErrShape)
	}
}

// P5.2 to P5.7: the errors of times, windows, kinds, drops and blocks.
func TestOtherErrors(t *testing.T) {
	a := asked(five(), 0, 0)
	for _, w := range []api.FigureWindow{
		window(0, -1), window(0, 6), window(-1, 5), window(3, 2), window(6, 6), window(5, 4), window(-1, -1), window(0, leastInt),
		window(0, greatestInt), window(leastInt, 5), window(greatestInt, 5), window(greatestInt, greatestInt), window(1, 0),
	} {
		n, e := figure.Energy(five(), w)
		wantWrong(t, "Energy", n, e, api.ErrRange)
		r, e := figure.EnergyWithin(asked(five(), 1, 7), w)
		wantWrong(t, "EnergyWithin", r, e, api.ErrRange)
	}
	for _, kind := range list(-1, 3, 4, leastInt, greatestInt) {
		r, e := figure.Decay(five(), kind)
		wantWrong(t, "Decay", r, e, api.ErrKind)
		r, e = figure.DecayWithin(asked(response(8000, 0), 5, 5), kind)
		wantWrong(t, "DecayWithin of nothing", r, e, api.ErrKind)
	}
	for _, fives := range list(-1, 13, leastInt, greatestInt) {
		n, e := figure.FirstBelow(five(), fives)
		wantWrong(t, "FirstBelow", n, e, api.ErrRange)
		n, e = figure.FirstBelow(response(8000, 0), fives)
		wantWrong(t, "FirstBelow of nothing", n, e, api.ErrRange)
	}
	for _, time := range list(-1, million+1, leastInt, greatestInt) {
		r, e := figure.Clarity(a, time)
		wantWrong(t, "Clarity", r, e, api.ErrRange)
		r, e = figure.DefinitionWithin(asked(response(8000, 0), 0, 0), time)
		wantWrong(t, "DefinitionWithin of nothing", r, e, api.ErrRange)
		f, e := figure.Definition(response(8000, 0), time)
		wantWrong(t, "Definition of nothing", f, e, api.ErrRange)
	}
	for _, block := range list(0, -1, 1025, leastInt, greatestInt) {
		z, e := figure.Modulated(five(), block)
		wantWrong(t, "Modulated", z, e, api.ErrRange)
		f, e := figure.Transfer(response(8000, 0), block)
		wantWrong(t, "Transfer of nothing", f, e, api.ErrRange)
		f, e = figure.Transfer(loudest(), block)
		wantWrong(t, "Transfer of the loudest", f, e, api.ErrRange)
	}
}
