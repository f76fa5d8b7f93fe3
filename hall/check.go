// Package hall is chapter 1: halls, settings, mirrors, free ways. See shared/doc/01-hall.md.
package hall

import "shoebox/api"

// The names of the two surfaces that every hall has.
const (
	floorName   = "floor"
	ceilingName = "ceiling"
)

// fault is an error of a hall, and the part that has it.
type fault struct {
	mark  api.HallMark
	errno api.Errno
}

// check looks at one aspect of a hall.
type check func() fault

// survey is a hall while it is checked, with the names that were met so far.
type survey struct {
	room
	materials, surfaces, seats map[string]bool
}

// CheckHall returns the first error of a hall, and the part that has it.
func CheckHall(h api.Hall) (api.HallMark, api.Errno) {
	s := &survey{
		room:      room{Hall: h},
		materials: map[string]bool{},
		surfaces:  map[string]bool{floorName: true, ceilingName: true},
		seats:     map[string]bool{},
	}
	checks := []check{
		s.checkItself, s.checkMaterials, s.checkParts, s.checkCorners,
		s.checkWalls, s.checkPlan, s.checkCanopies, s.checkSeats,
	}
	for _, look := range checks {
		if f := look(); f.errno != api.OK {
			return f.mark, f.errno
		}
	}
	return api.HallMark{}, api.OK
}

// whole is an error that names no part.
func whole(e api.Errno) fault { return fault{errno: e} }

// oneByOne looks at the elements of a list; the first one with an error decides.
func oneByOne(list, count int, look func(i int) api.Errno) fault {
	for i := range count {
		if e := look(i); e != api.OK {
			return fault{api.HallMark{List: list, Number: i}, e}
		}
	}
	return whole(api.OK)
}

// isName tells whether a text is 1 to MaxName letters, digits and "-", beginning with a letter.
func isName(t string) bool {
	if t == "" || len(t) > api.MaxName || !isLetter(t[0]) {
		return false
	}
	for i := range len(t) {
		if c := t[i]; !isLetter(c) && !isDigit(c) && c != '-' {
			return false
		}
	}
	return true
}

func isLetter(c byte) bool { return 'A' <= c && c <= 'Z' || 'a' <= c && c <= 'z' }

func isDigit(c byte) bool { return '0' <= c && c <= '9' }

func isShare(n int) bool { return 0 <= n && n <= api.Thousand }

func (s *survey) checkItself() fault {
	switch {
	case !isName(s.Name):
		return whole(api.ErrName)
	case s.Height < 2 || s.Height > api.MaxPlace:
		return whole(api.ErrRange)
	}
	return whole(api.OK)
}

func (s *survey) checkMaterials() fault {
	if len(s.Materials) > api.MaxHallMaterials {
		return whole(api.ErrLarge)
	}
	return oneByOne(api.HallMaterials, len(s.Materials), func(i int) api.Errno {
		m := s.Materials[i]
		switch {
		case !isName(m.Name):
			return api.ErrName
		case s.materials[m.Name]:
			return api.ErrExists
		}
		s.materials[m.Name] = true
		for _, n := range m.Absorbed {
			if !isShare(n) {
				return api.ErrRange
			}
		}
		if !isShare(m.Scattered) {
			return api.ErrRange
		}
		return api.OK
	})
}

// checkParts looks at what the hall is made from as a whole.
func (s *survey) checkParts() fault {
	switch {
	case !s.materials[s.Floor] || !s.materials[s.Ceiling]:
		return whole(api.ErrMissing)
	case len(s.Corners) < 3 || len(s.Walls) != len(s.Corners):
		return whole(api.ErrShape)
	case len(s.Walls) > api.MaxHallWalls:
		return whole(api.ErrLarge)
	}
	return whole(api.OK)
}

func (s *survey) checkCorners() fault {
	return oneByOne(api.HallCorners, len(s.Corners), func(i int) api.Errno {
		if beyond(api.MaxPlace, s.Corners[i].X, s.Corners[i].Y) {
			return api.ErrRange
		}
		return api.OK
	})
}

func (s *survey) checkWalls() fault {
	for i, line := range s.walls {
		if e := s.checkWall(s.Walls[i], line); e != api.OK {
			return fault{api.HallMark{List: api.HallWalls, Number: i}, e}
		}
	}
	return whole(api.OK)
}

func (s *survey) checkWall(w api.HallWall, line edge) api.Errno {
	switch {
	case !isName(w.Name):
		return api.ErrName
	case s.surfaces[w.Name]:
		return api.ErrExists
	case !s.materials[w.Material] || w.Curtain != "" && !s.materials[w.Curtain]:
		return api.ErrMissing
	case line.isNothing():
		return api.ErrZero
	case !line.isRight():
		return api.ErrKind
	}
	s.surfaces[w.Name] = true
	return api.OK
}

func (s *survey) checkPlan() fault {
	switch {
	case !s.isSimple():
		return whole(api.ErrBreak)
	case s.twiceArea() <= 0:
		return whole(api.ErrOrder)
	}
	return whole(api.OK)
}

func (s *survey) checkCanopies() fault {
	if len(s.Canopies) > api.MaxHallCanopies {
		return whole(api.ErrLarge)
	}
	return oneByOne(api.HallCanopies, len(s.Canopies), func(i int) api.Errno {
		c := s.Canopies[i]
		switch {
		case !isName(c.Name):
			return api.ErrName
		case s.surfaces[c.Name]:
			return api.ErrExists
		case !s.materials[c.Material]:
			return api.ErrMissing
		}
		s.surfaces[c.Name] = true
		if e := s.checkHeights(c.Heights); e != api.OK {
			return e
		}
		return s.checkSheet(c)
	})
}

func (s *survey) checkHeights(heights []int) api.Errno {
	if len(heights) < 1 || len(heights) > api.MaxHallHeights {
		return api.ErrShape
	}
	for i, n := range heights {
		switch {
		case n < 1 || n >= s.Height:
			return api.ErrRange
		case i > 0 && n <= heights[i-1]:
			return api.ErrOrder
		}
	}
	return api.OK
}

func (s *survey) checkSheet(c api.HallCanopy) api.Errno {
	switch {
	case beyond(api.MaxPlace, c.From.X, c.From.Y, c.To.X, c.To.Y):
		return api.ErrRange
	case c.From.X == c.To.X || c.From.Y == c.To.Y:
		return api.ErrZero
	case !s.frames(sheetOf(c)):
		return api.ErrBreak
	}
	return api.OK
}

func (s *survey) checkSeats() fault {
	if len(s.Seats) > api.MaxHallSeats {
		return whole(api.ErrLarge)
	}
	return oneByOne(api.HallSeats, len(s.Seats), func(i int) api.Errno {
		seat := s.Seats[i]
		switch {
		case !isName(seat.Name):
			return api.ErrName
		case s.seats[seat.Name]:
			return api.ErrExists
		}
		s.seats[seat.Name] = true
		return s.checkInside(seat.At)
	})
}

// checkInside looks at a place that is to be strictly inside of the hall.
func (r *room) checkInside(at api.Place) api.Errno {
	switch {
	case beyond(api.MaxPlace, at.X, at.Y, at.Z):
		return api.ErrRange
	case !r.isWithin(pointOf(at)):
		return api.ErrBreak
	}
	return api.OK
}
