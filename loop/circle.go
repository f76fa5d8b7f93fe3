package loop

import "shoebox/api"

const (
	fullLength   = 1 << 26  // the length of a direction
	eighth       = 47453132 // both numbers of the direction of an eighth of the turn
	quarter      = api.LoopParts / 4
	partsOfUnits = fullLength / api.LoopUnit // a direction's numbers for each one of a unit number
	unitReach    = 2                         // how far from a unit number the true one may be
)

type direction struct{ x, y int }

// turned is the direction a quarter of the turn further.
func (d direction) turned() direction { return direction{-d.y, d.x} }

// middle is the direction halfway between two others.
func middle(a, b direction) direction {
	x, y := a.x+b.x, a.y+b.y
	length := root(x*x + y*y)
	return direction{nearest(x*fullLength, length), nearest(y*fullLength, length)}
}

// circle is the directions of the first quarter of the turn, with both its ends; all others are turned ones.
type circle []direction

func newCircle() circle {
	c := make(circle, quarter+1)
	c[0] = direction{x: fullLength}
	c[quarter/2] = direction{eighth, eighth}
	c[quarter] = c[0].turned()
	for apart := quarter / 4; apart > 0; apart /= 2 {
		for m := apart; m < quarter; m += 2 * apart {
			c[m] = middle(c[m-apart], c[m+apart])
		}
	}
	return c
}

func (c circle) direction(m int) direction {
	part := modulo(m, api.LoopParts)
	d := c[part%quarter]
	for range part / quarter {
		d = d.turned()
	}
	return d
}

// unit is the unit number of m.
func (c circle) unit(m int) api.LoopBall {
	d := c.direction(m)
	b := api.LoopBall{X: nearest(d.x, partsOfUnits), Y: nearest(d.y, partsOfUnits), R: unitReach}
	if m%quarter == 0 {
		b.R = 0
	}
	return b
}

// UnitOf returns the unit number of m.
func UnitOf(m int) api.LoopBall { return newCircle().unit(m) }
