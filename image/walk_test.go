package image_test

import (
	"slices"
	"testing"

	"shoebox/api"
	"shoebox/image"
)

// walkTexts is walks of the sheltered box, and their texts.
var walkTexts = []struct {
	surfaces []int
	text     string
}{
	{[]int{}, "-"},
	{[]int{0}, "a"},
	{[]int{1, 3}, "b d"},
	{[]int{3, 1}, "d b"},
	{[]int{4}, "floor"},
	{[]int{5, 6, 4, 6}, "ceiling k floor k"},
	{[]int{0, 1, 0, 1}, "a b a b"},
}

// P2.6, P2.12: texts of walks, and back.
func TestWalkTexts(t *testing.T) {
	for _, c := range walkTexts {
		if s, e := image.FormatWalk(sheltered(), c.surfaces); s != c.text || e != api.OK {
			t.Errorf("%v: %q, %d", c.surfaces, s, e)
		}
		if l, e := image.ParseWalk(sheltered(), c.text); !slices.Equal(l, c.surfaces) || e != api.OK {
			t.Errorf("%q: %v, %d", c.text, l, e)
		}
	}
	if s, e := image.FormatWalk(box(), nil); s != "-" || e != api.OK {
		t.Errorf("nil: %q, %d", s, e)
	}
}

// P2.12: ParseWalk undoes FormatWalk.
func TestWalksBack(t *testing.T) {
	for _, surfaces := range walksOf(roofed(), 3) {
		s, e := image.FormatWalk(roofed(), surfaces)
		l, f := image.ParseWalk(roofed(), s)
		if e != api.OK || f != api.OK || !slices.Equal(l, surfaces) {
			t.Fatalf("%v: %q, %d: %v, %d", surfaces, s, e, l, f)
		}
	}
}

// P2.6: the errors of texts of walks, in their order.
func TestParseWalkErrors(t *testing.T) {
	for _, c := range []struct {
		text string
		want api.Errno
	}{
		{"", api.ErrSyntax},
		{" ", api.ErrSyntax},
		{"  ", api.ErrSyntax},
		{"a ", api.ErrSyntax},
		{" a", api.ErrSyntax},
		{"a  b", api.ErrSyntax},
		{"- ", api.ErrSyntax},
		{" -", api.ErrSyntax},
		{"x  b", api.ErrSyntax},
		{"x ", api.ErrSyntax},
		{"a a ", api.ErrSyntax},
		{"a b a b a ", api.ErrSyntax},
		{"e", api.ErrMissing},
		{"A", api.ErrMissing},
		{"ab", api.ErrMissing},
		{"k", api.ErrMissing},
		{"h", api.ErrMissing},
		{"w", api.ErrMissing},
		{"s", api.ErrMissing},
		{"0", api.ErrMissing},
		{"Floor", api.ErrMissing},
		{"a\tb", api.ErrMissing},
		{"\t", api.ErrMissing},
		{"a\n", api.ErrMissing},
		{"a b\n", api.ErrMissing},
		{"- a", api.ErrMissing},
		{"a -", api.ErrMissing},
		{"--", api.ErrMissing},
		{"- -", api.ErrMissing},
		{"\x00", api.ErrMissing},
		{"a,b", api.ErrMissing},
		{"a a x", api.ErrMissing},
		{"a b a b a x", api.ErrMissing},
		{"a b a b a", api.ErrLarge},
		{"a a a a a", api.ErrLarge},
		{"a a", api.ErrDouble},
		{"a b floor floor", api.ErrDouble},
	} {
		if l, e := image.ParseWalk(box(), c.text); len(l) > 0 || e != c.want {
			t.Errorf("%q: %v, %d, want %d", c.text, l, e, c.want)
		}
	}
}
