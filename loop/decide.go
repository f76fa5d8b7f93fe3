package loop

import (
	"iter"
	"slices"

	"shoebox/api"
)

// cuts yields the arcs into which the half of the turn is cut, in their order, and whether their balls are clear: those that are not cannot be cut further.
func (p plot) cuts() iter.Seq2[api.LoopArc, bool] {
	return func(yield func(api.LoopArc, bool) bool) {
		rest := []api.LoopArc{{From: 0, To: halfTurn}}
		for len(rest) > 0 {
			a := rest[len(rest)-1]
			rest = rest[:len(rest)-1]
			isClear := IsClear(p.ball(a))
			if !isClear && a.To-a.From > api.LoopLeastArc {
				first, second := halves(a)
				rest = append(rest, second, first)
			} else if !yield(a, isClear) {
				return
			}
		}
	}
}

// neverRings tells whether the answer is AnswerYes, without all of what is found.
func (p plot) neverRings() bool {
	for _, isClear := range p.cuts() {
		if !isClear {
			return false
		}
	}
	return true
}

// suspects is the arcs on which a loop may ring of which some arcs are open.
func suspects(open []api.LoopArc) []api.LoopArc {
	l := append([]api.LoopArc{atPoint(0), atPoint(halfTurn)}, open...)
	for i, a := range open[1:] {
		if before := open[i]; before.To == a.From {
			l = append(l, api.LoopArc{From: before.From, To: a.To})
		}
	}
	return l
}

// found is what is found of the loop.
func (p plot) found() api.LoopProof {
	var kept, open []api.LoopArc
	for a, isClear := range p.cuts() {
		if isClear {
			kept = append(kept, a)
		} else {
			open = append(open, a)
		}
	}
	if len(open) == 0 {
		return api.LoopProof{Answer: api.AnswerYes, Arcs: kept}
	}
	for _, a := range suspects(open) {
		if p.ringsOn(a) {
			return api.LoopProof{Answer: api.AnswerNo, Rings: a}
		}
	}
	return api.LoopProof{Answer: api.AnswerMaybe}
}

// firstOpen is the number of the first loop that may ring, or -1.
func firstOpen(l []api.Loop, c circle) int {
	return slices.IndexFunc(l, func(one api.Loop) bool { return !plot{feedback{one}, c}.neverRings() })
}

// scaledAll is loops scaled by thousandths; false if one of them is not right then.
func scaledAll(l []api.Loop, n int) ([]api.Loop, bool) {
	var scaled []api.Loop
	for _, one := range l {
		s, e := Scaled(one, n)
		if e != api.OK {
			return nil, false
		}
		scaled = append(scaled, s)
	}
	return scaled, true
}

// Decide returns what is found of a loop.
func Decide(l api.Loop) (api.LoopProof, api.Errno) {
	p := plotOf(l)
	if e := p.check(); e != api.OK {
		return api.LoopProof{}, e
	}
	return p.found(), api.OK
}

// FirstOpen returns the number of the first loop of which it is not proved that it never rings.
func FirstOpen(l []api.Loop) (int, api.Errno) {
	if e := allRight(l)(); e != api.OK {
		return 0, e
	}
	i := firstOpen(l, newCircle())
	if i < 0 {
		return 0, api.ErrNone
	}
	return i, api.OK
}

// Margin returns the greatest margin up to which no loop rings, in thousandths.
func Margin(l []api.Loop) (int, api.Errno) {
	if e := allRight(l)(); e != api.OK {
		return 0, e
	}
	c := newCircle()
	margin := 0
	for n := 0; n <= api.MaxLoopMargin; n += api.LoopMarginStep {
		scaled, areRight := scaledAll(l, n)
		if !areRight || firstOpen(scaled, c) >= 0 {
			break
		}
		margin = n
	}
	return margin, api.OK
}
