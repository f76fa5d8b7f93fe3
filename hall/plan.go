package hall

import "shoebox/api"

// room is a hall in one of its settings.
type room struct {
	api.Hall
	setting api.HallSetting
}

// walls yields the walls of the plan with their numbers.
func (r *room) walls(yield func(int, edge) bool) {
	for i := range r.Corners {
		if !yield(i, r.line(i)) {
			return
		}
	}
}

// line is where a wall stands.
func (r *room) line(wall int) edge {
	return edge{r.Corners[wall], r.Corners[(wall+1)%len(r.Corners)]}
}

// twiceArea is twice the area of the plan, below 0 if it runs clockwise.
func (r *room) twiceArea() int {
	sum := 0
	for _, w := range r.walls {
		sum += w.from.X*w.to.Y - w.to.X*w.from.Y
	}
	return sum
}

// isSimple tells whether the walls have nothing in common but the corners between neighbours. The corner at which a wall begins may lie on this wall and the one before, and on no other; no wall may block another one. (Of two walls in one line that have more in common, one has an end of the other.)
func (r *room) isSimple() bool {
	for i, a := range r.walls {
		begin := cornerPoint(a.from)
		for j, b := range r.walls {
			if i == j {
				continue
			}
			isBefore := (j+1)%len(r.Corners) == i
			if b.blocks(a.way()) || !isBefore && b.holds(begin) {
				return false
			}
		}
	}
	return true
}

// covers tells whether a point, seen from above, lies inside of the plan and on no wall. It counts the walls that a line from the point in the direction of X meets: to the right of a wall offPlane is above 0 for all kinds of planes that this line crosses.
func (r *room) covers(p api.HallPoint) bool {
	inside := false
	for _, w := range r.walls {
		if w.holds(p) {
			return false
		}
		straddles := (w.from.Y*p.Den <= p.Y) != (w.to.Y*p.Den <= p.Y)
		if straddles && offPlane(w.plane(), p) < 0 {
			inside = !inside
		}
	}
	return inside
}

// isWithin tells whether a point is strictly inside of the hall.
func (r *room) isWithin(p api.HallPoint) bool {
	return r.isBetween(p) && r.covers(p)
}

// isBetween tells whether a point lies above the floor and below the ceiling.
func (r *room) isBetween(p api.HallPoint) bool {
	return p.Z > 0 && p.Z < r.Height*p.Den
}

// isLevel is isBetween with the floor and the ceiling.
func (r *room) isLevel(p api.HallPoint) bool {
	return p.Z >= 0 && p.Z <= r.Height*p.Den
}

// frames tells whether all points of a sheet lie inside of the plan and on no wall. Its rim is enough, because a simple plan has no holes.
func (r *room) frames(s sheet) bool {
	for rim := range s.rims {
		if !r.covers(cornerPoint(rim.from)) {
			return false
		}
		for _, w := range r.walls {
			if w.blocks(rim.way()) {
				return false
			}
		}
	}
	return true
}

// isFree tells whether a way is free. Heights change evenly along it, so both ends and the middle tell of all; and if no wall is met the middle tells of all points of the plan (of an upright way it is the only one there).
func (r *room) isFree(w api.HallWay) bool {
	if !r.isWithin(middle(w)) || !r.isLevel(w.From) || !r.isLevel(w.To) {
		return false
	}
	for _, wall := range r.walls {
		if wall.blocks(w) {
			return false
		}
	}
	for i, c := range r.Canopies {
		if sheetOf(c).blocks(r.canopyPlane(i), w) {
			return false
		}
	}
	return true
}

// canopyPlane is the plane of a canopy at the height that it has in the setting.
func (r *room) canopyPlane(i int) api.HallPlane {
	return api.HallPlane{Kind: api.PlaneZ, At: r.Canopies[i].Heights[r.setting.Heights[i]]}
}
