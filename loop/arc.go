package loop

import "shoebox/api"

// halfTurn is where proofs end: by symmetry the other half of the turn is like the first one.
const halfTurn = api.LoopParts / 2

// onHalf is the condition that an arc is one of the half of the turn.
func onHalf(a api.LoopArc) condition {
	return func() api.Errno {
		return firstError(
			within(a.From, 0, halfTurn),
			within(a.To, 0, halfTurn),
			refuse(a.From > a.To, api.ErrOrder),
		)
	}
}

func middleOf(a api.LoopArc) int { return (a.From + a.To) / 2 }

func halves(a api.LoopArc) (first, second api.LoopArc) {
	m := middleOf(a)
	return api.LoopArc{From: a.From, To: m}, api.LoopArc{From: m, To: a.To}
}

// atPoint is the arc from m to m.
func atPoint(m int) api.LoopArc { return api.LoopArc{From: m, To: m} }

// ringsOn tells whether the loop rings on an arc. At both ends of the half of the turn values are real, so that none has to lie on either side.
func (p plot) ringsOn(a api.LoopArc) bool {
	if a == atPoint(0) || a == atPoint(halfTurn) {
		return isBeyond(p.value(a.From))
	}
	return isBeyond(p.ball(a)) && side(p.value(a.From))*side(p.value(a.To)) < 0
}

// provenBy is the condition that arcs prove that the loop never rings; the loop has to be right.
func (p plot) provenBy(arcs []api.LoopArc) condition {
	begin := func(i int) int {
		if i == 0 {
			return 0
		}
		return arcs[i-1].To
	}
	return func() api.Errno {
		return firstError(
			each(len(arcs), func(i int) api.Errno {
				a := arcs[i]
				return firstError(
					onHalf(a),
					refuse(a.From != begin(i), api.ErrGap),
					func() api.Errno { return refuse(!IsClear(p.ball(a)), api.ErrProof)() },
				)
			}),
			refuse(begin(len(arcs)) != halfTurn, api.ErrGap),
		)
	}
}

// CheckArcs accepts arcs that prove that a loop never rings, and returns how many there are.
func CheckArcs(l api.Loop, arcs []api.LoopArc) (int, api.Errno) {
	p := plotOf(l)
	e := firstError(p.check, refuse(len(arcs) > api.MaxLoopArcs, api.ErrLarge), p.provenBy(arcs))
	if e != api.OK {
		return 0, e
	}
	return len(arcs), api.OK
}

// CheckRings accepts an arc on which a loop rings.
func CheckRings(l api.Loop, a api.LoopArc) api.Errno {
	p := plotOf(l)
	return firstError(
		p.check,
		onHalf(a),
		func() api.Errno { return refuse(!p.ringsOn(a), api.ErrProof)() },
	)
}
