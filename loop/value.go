package loop

import (
	"cmp"

	"shoebox/api"
)

const (
	oneGain  = api.LoopOne * api.Thousand // what stands for 1 in a tap times a gain
	mostTurn = 1000000                    // parts of the turn that a value may be asked at, in size

	// A part of the turn moves the number of a sample's delay by 2 pi / 4096. In parts of LoopUnit, and by what stands for 1, this is 2 pi / 64000; 6284 / 1000 is a little more than 2 pi.
	swayTurn  = 6284
	swayParts = 64000000
)

// plot is a loop with the circle on which it is looked at.
type plot struct {
	feedback
	circle
}

func plotOf(l api.Loop) plot { return plot{feedback{l}, newCircle()} }

// value is the loop's value at m.
func (p plot) value(m int) api.LoopBall {
	var sum api.LoopBall
	for k, tap := range p.Taps {
		unit := p.unit(-m * k)
		sum.X += tap * unit.X
		sum.Y += tap * unit.Y
		sum.R += size(tap) * unit.R
	}
	x, y, r := p.Gain*sum.X, p.Gain*sum.Y, p.Gain*sum.R
	b := api.LoopBall{X: nearest(x, oneGain), Y: nearest(y, oneGain), R: ceiling(r, oneGain)}
	if x%oneGain != 0 || y%oneGain != 0 {
		b.R++
	}
	return b
}

// sway is how far the loop's value moves at most, while the turn goes on by some parts.
func (p plot) sway(parts int) int {
	sum := 0
	for k, tap := range p.Taps {
		sum += k * size(tap)
	}
	return ceiling(sum*p.Gain*swayTurn*parts, swayParts)
}

// ball has the loop's values at all angles of an arc.
func (p plot) ball(a api.LoopArc) api.LoopBall {
	m := middleOf(a)
	b := p.value(m)
	b.R += p.sway(a.To - m)
	return b
}

// side is 1 if a ball lies above the real numbers, -1 if below them, and 0 if it may have one.
func side(b api.LoopBall) int {
	if size(b.Y) <= b.R {
		return 0
	}
	return cmp.Compare(b.Y, 0)
}

// isBeyond tells whether no number of a ball has a real part below 1.
func isBeyond(b api.LoopBall) bool { return b.X-b.R >= api.LoopUnit }

// ValueAt returns the value of a loop at m.
func ValueAt(l api.Loop, m int) (api.LoopBall, api.Errno) {
	p := plotOf(l)
	if e := firstError(p.check, within(m, -mostTurn, mostTurn)); e != api.OK {
		return api.LoopBall{}, e
	}
	return p.value(m), api.OK
}

// ArcBall returns the ball of an arc.
func ArcBall(l api.Loop, a api.LoopArc) (api.LoopBall, api.Errno) {
	p := plotOf(l)
	if e := firstError(p.check, onHalf(a)); e != api.OK {
		return api.LoopBall{}, e
	}
	return p.ball(a), api.OK
}

// IsClear returns whether a ball has no real number from 1 on.
func IsClear(b api.LoopBall) bool {
	isBall := isSmall(b.X, api.MaxNumber) && isSmall(b.Y, api.MaxNumber) && 0 <= b.R && b.R <= api.MaxNumber
	return isBall && (side(b) != 0 || b.X+b.R < api.LoopUnit)
}
