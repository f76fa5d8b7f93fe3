package hall

import (
	"strconv"
	"strings"

	"shoebox/api"
)

// Print returns the text of a hall.
func Print(h api.Hall) (string, api.Errno) {
	r, e := visit(h)
	if e != api.OK {
		return "", e
	}
	return r.text(), api.OK
}

func (r *room) text() string {
	var b strings.Builder
	line := func(parts ...any) {
		b.WriteString(strings.Join(wordsOf(parts...), " "))
		b.WriteByte('\n')
	}
	line("hall", r.Name, "height", r.Height, floorName, r.Floor, ceilingName, r.Ceiling)
	for _, m := range r.Materials {
		line("material", m.Name, m.Absorbed[:], "scatter", m.Scattered)
	}
	for i, e := range r.walls {
		w := r.Walls[i]
		line("corner", e.from.X, e.from.Y, "wall", w.Name, w.Material, curtainWords(w))
	}
	for _, c := range r.Canopies {
		line("canopy", c.Name, c.Material, c.From.X, c.From.Y, c.To.X, c.To.Y, "heights", c.Heights)
	}
	for _, s := range r.Seats {
		line("seat", s.Name, s.At.X, s.At.Y, s.At.Z)
	}
	return b.String()
}

func curtainWords(w api.HallWall) []string {
	if w.Curtain == "" {
		return nil
	}
	return []string{"curtain", w.Curtain}
}

// wordsOf is the words of texts, numbers, and lists of them.
func wordsOf(parts ...any) []string {
	var words []string
	for _, part := range parts {
		switch x := part.(type) {
		case string:
			words = append(words, x)
		case []string:
			words = append(words, x...)
		case int:
			words = append(words, strconv.Itoa(x))
		case []int:
			for _, n := range x {
				words = append(words, strconv.Itoa(n))
			}
		}
	}
	return words
}

// Parse returns the hall with a text, or the place of its first error.
func Parse(t string) (api.Hall, api.TextMark, api.Errno) {
	if len(t) > api.MaxText {
		return api.Hall{}, api.TextMark{}, api.ErrLarge
	}
	d := draft{lines: map[api.HallMark]int{}}
	if mark, e := d.readAll(t); e != api.OK {
		return api.Hall{}, mark, e
	}
	if part, e := CheckHall(d.Hall); e != api.OK {
		return api.Hall{}, api.TextMark{Line: d.lines[part], Column: 1}, e
	}
	return d.Hall, api.TextMark{}, api.OK
}

// draft is what was read of a hall so far, and the lines in which its parts stand.
type draft struct {
	api.Hall
	lines map[api.HallMark]int
}

// readAll reads the lines of a text, up to the first error.
func (d *draft) readAll(t string) (api.TextMark, api.Errno) {
	lines := strings.Split(t, "\n")
	if last := len(lines) - 1; lines[last] == "" { // no line begins behind the last line feed
		lines = lines[:last]
	}
	for i, text := range lines {
		r := newReader(text)
		if len(r.words) == 0 {
			continue
		}
		if wrong := d.readLine(r, i+1); wrong.errno != api.OK {
			return api.TextMark{Line: i + 1, Column: wrong.column}, wrong.errno
		}
	}
	if len(d.lines) == 0 {
		return api.TextMark{Line: len(lines) + 1, Column: 1}, api.ErrMissing
	}
	return api.TextMark{}, api.OK
}

// readLine reads a line with words; the first one that is wrong stops its reader.
func (d *draft) readLine(r *reader, line int) (wrong wrongWord) {
	defer func() {
		if x, ok := recover().(wrongWord); ok {
			wrong = x
		}
	}()
	if len(d.lines) == 0 {
		d.lines[api.HallMark{}] = line
		r.read("hall", &d.Name, "height", &d.Height, floorName, &d.Floor, ceilingName, &d.Ceiling)
	} else {
		d.readPart(r, line)
	}
	r.finish()
	return wrong
}

// readPart reads a line behind the first one.
func (d *draft) readPart(r *reader, line int) {
	switch r.words[0].text {
	case "material":
		d.lines[api.HallMark{List: api.HallMaterials, Number: len(d.Materials)}] = line
		d.Materials = append(d.Materials, r.material())
	case "corner":
		d.lines[api.HallMark{List: api.HallCorners, Number: len(d.Corners)}] = line
		d.lines[api.HallMark{List: api.HallWalls, Number: len(d.Walls)}] = line
		corner, wall := r.corner()
		d.Corners, d.Walls = append(d.Corners, corner), append(d.Walls, wall)
	case "canopy":
		d.lines[api.HallMark{List: api.HallCanopies, Number: len(d.Canopies)}] = line
		d.Canopies = append(d.Canopies, r.canopy())
	case "seat":
		d.lines[api.HallMark{List: api.HallSeats, Number: len(d.Seats)}] = line
		d.Seats = append(d.Seats, r.seat())
	default:
		r.stop(api.ErrSyntax)
	}
}
