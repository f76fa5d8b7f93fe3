package image

import (
	"slices"
	"strings"

	"shoebox/api"
)

// The text of a walk without surfaces, and what stands between names.
const (
	noSurfaces = "-"
	blank      = " "
)

// FormatWalk returns the text of a walk.
func FormatWalk(h api.Hall, surfaces []int) (string, api.Errno) {
	g, e := visit(h)
	if e != api.OK {
		return "", e
	}
	if e := g.known(surfaces)(); e != api.OK {
		return "", e
	}
	if len(surfaces) == 0 {
		return noSurfaces, api.OK
	}
	var words []string
	for _, n := range surfaces {
		words = append(words, g.names[n])
	}
	return strings.Join(words, blank), api.OK
}

// ParseWalk returns the surfaces with a text.
func ParseWalk(h api.Hall, t string) ([]int, api.Errno) {
	g, e := visit(h)
	if e != api.OK {
		return nil, e
	}
	if t == noSurfaces {
		return nil, api.OK
	}
	words := strings.Split(t, blank)
	if slices.Contains(words, "") {
		return nil, api.ErrSyntax
	}
	var surfaces []int
	for _, word := range words {
		n := slices.Index(g.names, word)
		if n < 0 {
			return nil, api.ErrMissing
		}
		surfaces = append(surfaces, n)
	}
	if e := g.known(surfaces)(); e != api.OK {
		return nil, e
	}
	return surfaces, api.OK
}
