package engine

import (
	"strings"

	"shoebox/api"
	"shoebox/filter"
)

// draftUnit is a unit as its line tells it: other units by their names, and its cascade by words.
type draftUnit struct {
	api.EngineUnit
	mark    api.TextMark
	stand   []word // one, or none
	from    []word
	cascade []word // first the word ahead of those of the text
}

// draft is what was read of a graph so far.
type draft struct {
	name  string
	mark  api.TextMark
	units []*draftUnit
}

// Parse returns the graph with a text, or the place of its first error.
func Parse(t string) (g api.EngineGraph, mark api.TextMark, e api.Errno) {
	if len(t) > api.MaxText {
		return api.EngineGraph{}, api.TextMark{}, api.ErrLarge
	}
	defer func() {
		if w, ok := recover().(wrong); ok {
			g, mark, e = api.EngineGraph{}, w.mark, w.errno
		}
	}()
	d := &draft{}
	d.readAll(t)
	d.findNames()
	d.readCascades()
	return d.graph(), api.TextMark{}, api.OK
}

// readAll reads the lines of a text.
func (d *draft) readAll(t string) {
	lines := strings.Split(t, "\n")
	if last := len(lines) - 1; lines[last] == "" { // no line begins behind the last line feed
		lines = lines[:last]
	}
	for i, text := range lines {
		if r := newReader(text, i+1); r.hasMore() {
			d.readLine(r, api.TextMark{Line: i + 1, Column: 1})
		}
	}
	if d.name == "" {
		panic(wrong{api.TextMark{Line: len(lines) + 1, Column: 1}, api.ErrMissing})
	}
}

// readLine reads a line with words.
func (d *draft) readLine(r *reader, mark api.TextMark) {
	if d.name == "" {
		r.fixed(graphWord)
		d.name, d.mark = r.name().text, mark
	} else {
		u := r.unit()
		u.mark = mark
		d.units = append(d.units, u)
	}
	r.finish()
}

// unit is the unit of a line.
func (r *reader) unit() *draftUnit {
	u := &draftUnit{}
	isKind := func(text string) bool {
		var ok bool
		u.Kind, ok = kindOf(text)
		return ok
	}
	r.take(isKind, api.ErrSyntax)
	u.Name, u.Stand = r.name().text, nobody
	if r.hasMore() && r.words[0].text == standWord {
		r.fixed(standWord)
		u.stand = append(u.stand, r.name())
	}
	switch u.Kind {
	case api.UnitSum:
		r.sources(u)
	case api.UnitDelay:
		r.source(u)
		u.Delay = r.number()
	case api.UnitFilter:
		r.source(u)
		u.cascade = append(u.cascade, r.fixed(cascadeWord))
		u.cascade = append(u.cascade, r.words...)
		r.words = nil
	case api.UnitOutput:
		r.source(u)
	}
	return u
}

// source reads a unit that another one takes from, and by how much it is aligned.
func (r *reader) source(u *draftUnit) {
	u.from = append(u.from, r.name())
	u.Align = append(u.Align, r.number())
}

// sources reads all units that a sum takes from.
func (r *reader) sources(u *draftUnit) {
	for isFirst := true; isFirst || r.hasMore(); isFirst = false {
		r.source(u)
		u.Gains = append(u.Gains, r.number())
	}
}

// findNames puts numbers of units in place of their names.
func (d *draft) findNames() {
	numbers := map[string]int{}
	for i, u := range d.units {
		numbers[u.Name] = i
	}
	find := func(w word) int {
		n, ok := numbers[w.text]
		if !ok {
			panic(wrong{w.mark, api.ErrMissing})
		}
		return n
	}
	for _, u := range d.units {
		for _, w := range u.stand {
			u.Stand = find(w)
		}
		for _, w := range u.from {
			u.From = append(u.From, find(w))
		}
	}
}

// readCascades puts cascades in place of their words.
func (d *draft) readCascades() {
	for _, u := range d.units {
		if u.Kind == api.UnitFilter {
			u.readCascade()
		}
	}
}

func (u *draftUnit) readCascade() {
	var texts []string
	for _, w := range u.cascade[1:] {
		texts = append(texts, w.text)
	}
	c, e := filter.ParseCascade(strings.Join(texts, blank))
	if e != api.OK {
		panic(wrong{u.cascade[0].mark, e})
	}
	u.Cascade = c
}

// graph is the graph that was read, if it is right.
func (d *draft) graph() api.EngineGraph {
	g := api.EngineGraph{Name: d.name}
	for _, u := range d.units {
		g.Units = append(g.Units, u.EngineUnit)
	}
	unit, e := graphError(g)
	switch {
	case e != api.OK && unit == nobody:
		panic(wrong{d.mark, e})
	case e != api.OK:
		panic(wrong{d.units[unit].mark, e})
	}
	return g
}
