package hall

import "shoebox/api"

// word is a word of a line, and the column of its first byte.
type word struct {
	text   string
	column int
}

// wrongWord is the error that stops a reader, and its column.
type wrongWord struct {
	column int
	errno  api.Errno
}

// reader reads the words of a line one after the other.
type reader struct {
	words []word
	next  int
	// end is the column behind the last word.
	end int
}

func newReader(line string) *reader {
	r := &reader{}
	for at := 0; at < len(line); {
		if isBlank(line[at]) {
			at++
			continue
		}
		begin := at
		for at < len(line) && !isBlank(line[at]) {
			at++
		}
		r.words = append(r.words, word{line[begin:at], begin + 1})
		r.end = at + 1
	}
	return r
}

func isBlank(c byte) bool { return c == ' ' || c == '\t' }

func (r *reader) hasMore() bool { return r.next < len(r.words) }

// stop ends the reading at the next word, or at the end.
func (r *reader) stop(e api.Errno) {
	column := r.end
	if r.hasMore() {
		column = r.words[r.next].column
	}
	panic(wrongWord{column, e})
}

// take is the next word, which has to be right; an error names the place of this word.
func (r *reader) take(isRight func(t string) bool, e api.Errno) string {
	if !r.hasMore() {
		r.stop(api.ErrMissing)
	}
	t := r.words[r.next].text
	if !isRight(t) {
		r.stop(e)
	}
	r.next++
	return t
}

// read reads the words of a form: a text stands for itself, the address of a text for a name, that of a number for a number, and that of a list for one number or more, up to the end.
func (r *reader) read(form ...any) {
	for _, part := range form {
		switch x := part.(type) {
		case string:
			r.take(func(t string) bool { return t == x }, api.ErrSyntax)
		case *string:
			*x = r.take(isName, api.ErrName)
		case *int:
			*x = r.number()
		case *[]int:
			*x = append(*x, r.number())
			for r.hasMore() {
				*x = append(*x, r.number())
			}
		}
	}
}

func (r *reader) number() int {
	n := 0
	r.take(func(t string) bool {
		var ok bool
		n, ok = parseNumber(t)
		return ok
	}, api.ErrSyntax)
	return n
}

// parseNumber is the number of 1 to 6 digits, perhaps with "-" in front.
func parseNumber(t string) (int, bool) {
	const most = 6
	if t == "" || t[0] != '-' {
		return parseDigits(t, most)
	}
	n, ok := parseDigits(t[1:], most)
	return -n, ok && n != 0
}

// finish stops at a word that the form does not have.
func (r *reader) finish() {
	if r.hasMore() {
		r.stop(api.ErrSyntax)
	}
}

func (r *reader) material() api.HallMaterial {
	var m api.HallMaterial
	r.read("material", &m.Name)
	for i := range m.Absorbed {
		r.read(&m.Absorbed[i])
	}
	r.read("scatter", &m.Scattered)
	return m
}

func (r *reader) corner() (api.HallCorner, api.HallWall) {
	var c api.HallCorner
	var w api.HallWall
	r.read("corner", &c.X, &c.Y, "wall", &w.Name, &w.Material)
	if r.hasMore() {
		r.read("curtain", &w.Curtain)
	}
	return c, w
}

func (r *reader) canopy() api.HallCanopy {
	var c api.HallCanopy
	r.read("canopy", &c.Name, &c.Material, &c.From.X, &c.From.Y, &c.To.X, &c.To.Y, "heights", &c.Heights)
	return c
}

func (r *reader) seat() api.HallSeat {
	var s api.HallSeat
	r.read("seat", &s.Name, &s.At.X, &s.At.Y, &s.At.Z)
	return s
}
