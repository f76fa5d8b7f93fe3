package figure

import "shoebox/api"

// The times of clarity and definition, in microseconds.
const (
	clarityTime    = 80000
	definitionTime = 50000
)

// twentieth is the part of a decay time by which another one that sounds alike may differ.
const twentieth = 20

// figure is how one of the figures is told, and by how much two numbers of it may differ that sound alike (0: by a twentieth of them).
type figure struct {
	tell  func(h heard) (ends, api.Errno)
	apart int
}

// table is all figures.
func table() [api.FigureCount]figure {
	decay := func(kind int) figure {
		return figure{tell: func(h heard) (ends, api.Errno) { return h.decay(kind) }}
	}
	return [...]figure{
		api.FigureEarly:      decay(api.DecayEarly),
		api.FigureTwenty:     decay(api.DecayTwenty),
		api.FigureThirty:     decay(api.DecayThirty),
		api.FigureClarity:    {func(h heard) (ends, api.Errno) { return h.clarity(clarityTime) }, 1},
		api.FigureDefinition: {func(h heard) (ends, api.Errno) { return h.definition(definitionTime) }, 50},
		api.FigureCentre:     {heard.centre, 10000},
	}
}

func (h heard) figures() api.Figures {
	var f api.Figures
	for i, one := range table() {
		if value, e := one.tell(h); e == api.OK {
			f.Known[i], f.Values[i] = true, value.Range
		}
	}
	return f
}

// compare answers whether two values of a figure sound alike.
func (f figure) compare(a, b api.Range) int {
	farthest := max(a.Hi-b.Lo, b.Hi-a.Lo)
	nearest := max(a.Lo-b.Hi, b.Lo-a.Hi, 0)
	surely, perhaps := f.apart, f.apart
	if f.apart == 0 {
		farthest, nearest = twentieth*farthest, twentieth*nearest
		surely, perhaps = min(a.Lo, b.Lo), max(a.Hi, b.Hi)
	}
	switch {
	case farthest <= surely:
		return api.AnswerYes
	case nearest > perhaps:
		return api.AnswerNo
	}
	return api.AnswerMaybe
}

// FiguresOf returns all figures of an ask.
func FiguresOf(a api.FigureAsk) (api.Figures, api.Errno) {
	h, e := hear(a)
	if e != api.OK {
		return api.Figures{}, e
	}
	return h.figures(), api.OK
}

// Compared returns for each figure whether two responses sound alike.
func Compared(a, b api.FigureAsk) ([api.FigureCount]int, api.Errno) {
	x, first := hear(a)
	y, second := hear(b)
	if e := firstError(first, second); e != api.OK {
		return [api.FigureCount]int{}, e
	}
	f, g := x.figures(), y.figures()
	var answers [api.FigureCount]int
	for i, one := range table() {
		answers[i] = api.AnswerMaybe
		if f.Known[i] && g.Known[i] {
			answers[i] = one.compare(f.Values[i], g.Values[i])
		}
	}
	return answers, api.OK
}
