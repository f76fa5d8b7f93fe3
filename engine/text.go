package engine

import (
	"strconv"
	"strings"

	"shoebox/api"
	"shoebox/filter"
)

// Words of the language, and what stands between them.
const (
	graphWord   = "graph"
	standWord   = "stand"
	cascadeWord = "cascade"
	blank       = " "
)

// kindWords is the words of the kinds of units.
var kindWords = [...]string{
	api.UnitInput:  "input",
	api.UnitSum:    "sum",
	api.UnitDelay:  "delay",
	api.UnitFilter: "filter",
	api.UnitOutput: "output",
}

// kindOf is the kind with a word; false if there is none.
func kindOf(text string) (int, bool) {
	for kind, w := range kindWords {
		if w == text {
			return kind, true
		}
	}
	return 0, false
}

// Print returns the text of a graph.
func Print(g api.EngineGraph) (string, api.Errno) {
	if _, e := CheckGraph(g); e != api.OK {
		return "", e
	}
	var b strings.Builder
	line := func(words ...string) {
		b.WriteString(strings.Join(words, blank))
		b.WriteByte('\n')
	}
	line(graphWord, g.Name)
	for unit := range g.Units {
		line(unitWords(g, unit)...)
	}
	return b.String(), api.OK
}

// unitWords is the words of the line of a unit.
func unitWords(g api.EngineGraph, unit int) []string {
	u := g.Units[unit]
	words := []string{kindWords[u.Kind], u.Name}
	if u.Stand != nobody {
		words = append(words, standWord, g.Units[u.Stand].Name)
	}
	for i, from := range u.From {
		words = append(words, g.Units[from].Name, strconv.Itoa(u.Align[i]))
		if u.Kind == api.UnitSum {
			words = append(words, strconv.Itoa(u.Gains[i]))
		}
	}
	switch u.Kind {
	case api.UnitDelay:
		words = append(words, strconv.Itoa(u.Delay))
	case api.UnitFilter:
		words = append(words, cascadeWord)
		if text := filter.FormatCascade(u.Cascade); text != "" {
			words = append(words, text)
		}
	}
	return words
}
