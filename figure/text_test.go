package figure_test

import (
	"math/rand"
	"strings"
	"testing"

	"shoebox/api"
	"shoebox/figure"
)

const exampleText = "750 1500 750 1500 500 1000 - 1000 1000 39 40"

// P5.9: the text of the example, and of figures whatever they are.
func TestFormatFigures(t *testing.T) {
	f, _ := figure.FiguresOf(asked(five(), 0, 0))
	unknown := api.Figures{Values: known([api.FigureCount]api.Range{span(1, 2), span(3, 4), span(5, 6)}).Values}
	for _, c := range []struct {
		f    api.Figures
		want string
	}{
		{f, exampleText},
		{api.Figures{}, "- - - - - -"},
		{unknown, "- - - - - -"},
		{known([api.FigureCount]api.Range{}), "0 0 0 0 0 0 0 0 0 0 0 0"},
		{known([api.FigureCount]api.Range{span(1, 2), span(3, 4), span(5, 6), span(7, 8), span(9, 10), span(11, 12)}), "1 2 3 4 5 6 7 8 9 10 11 12"},
		{known([api.FigureCount]api.Range{3: span(-4, -3), 5: span(2, 1)}, 0, 1, 2, 4), "- - - -4 -3 - 2 1"},
		{known([api.FigureCount]api.Range{span(leastInt, greatestInt)}, 1, 2, 3, 4, 5), "-9223372036854775808 9223372036854775807 - - - - -"},
	} {
		if s := figure.FormatFigures(c.f); s != c.want {
			t.Errorf("%v: %q, want %q", c.f, s, c.want)
		}
	}
}

// P5.9: the figures with texts.
func TestParseFigures(t *testing.T) {
	example := [api.FigureCount]api.Range{span(750, 1500), span(750, 1500), span(500, 1000), {}, span(1000, 1000), span(39, 40)}
	for _, c := range []struct {
		s    string
		want api.Figures
	}{
		{exampleText, known(example, 3)},
		{"- - - - - -", api.Figures{}},
		{"0 0 0 0 0 0 0 0 0 0 0 0", known([api.FigureCount]api.Range{})},
		{"- - - -4 -3 - -", known([api.FigureCount]api.Range{3: span(-4, -3)}, 0, 1, 2, 4, 5)},
		{"- - - - - -7 7", known([api.FigureCount]api.Range{5: span(-7, 7)}, 0, 1, 2, 3, 4)},
		{"-9999999999999 9999999999999 - - - - -", known([api.FigureCount]api.Range{span(-9999999999999, 9999999999999)}, 1, 2, 3, 4, 5)},
		{"5 5 - - - - 1000000000000 1000000000001", known([api.FigureCount]api.Range{span(5, 5), 5: span(mostTail, mostTail+1)}, 1, 2, 3, 4)},
	} {
		f, e := figure.ParseFigures(c.s)
		wantSame(t, c.s, f, e, c.want, api.OK)
	}
}

// P5.9: the errors of texts: whatever is no text of figures comes ahead of the order of ends.
func TestParseFiguresErrors(t *testing.T) {
	for _, s := range []string{
		"", " ", "-", "- - - - -", "- - - - - - -", "- - - - - - ", " - - - - - -", "-  - - - - -", "- - - - - -\n", "-\t- - - - -",
		"1 - - - - -", "1 - - - - - -", "- - - - - 1", "1 2 3 - - - -", "- - - - - 1 2 3", "- - - - - - 1 2", "1 2 - - - - - -", "1 2 - - - -",
		"01 2 - - - - -", "1 02 - - - - -", "+1 2 - - - - -", "-0 2 - - - - -", "1 2 - - - - -0", "-01 2 - - - - -", "--1 2 - - - - -",
		"1.0 2 - - - - -", "1_0 20 - - - - -", "0x1 2 - - - - -", "1e0 2 - - - - -", "a b - - - - -", "1,2 - - - - -", "1 2\x00 - - - - -",
		"10000000000000 10000000000000 - - - - -", "1 10000000000000 - - - - -", "-10000000000000 1 - - - - -", "- - - - - 0 10000000000000",
		"9223372036854775808 1 - - - - -", "18446744073709551617 18446744073709551617 - - - - -", "\u0661 2 - - - - -", "− − − − − −",
		"-- - - - - -", "- - - - - --", "1 2 1 2 1 2 1 2 1 2 1", "1 2 1 2 1 2 1 2 1 2 1 2 1", strings.Repeat("9", 5000), strings.Repeat("- ", 5000),
		"2 1 - - - -", "2 1 - - - - x", "2 1 - - - - 01 2", "2 1 - - - - - ", "x 2 1 - - - - -",
	} {
		f, e := figure.ParseFigures(s)
		wantWrong(t, s[:min(len(s), 40)], f, e, api.ErrSyntax)
	}
	for _, s := range []string{
		"2 1 - - - - -", "- 2 1 - - - -", "- - 1 0 - - -", "- - - -3 -4 - -", "- - - - 1000 999 -", "- - - - - 0 -1", "9999999999999 -9999999999999 - - - - -",
		"1 2 3 4 5 6 7 8 9 10 12 11", "2 1 2 1 2 1 2 1 2 1 2 1",
	} {
		f, e := figure.ParseFigures(s)
		wantWrong(t, s, f, e, api.ErrOrder)
	}
}

// P5.13: ParseFigures undoes FormatFigures of figures with zero ranges where they are not known.
func TestTextsOfFigures(t *testing.T) {
	r := rand.New(rand.NewSource(18))
	for i := range 300 {
		f, _ := figure.FiguresOf(anyAsk(r))
		if i%2 == 0 {
			f = anyFigures(r)
		}
		g, e := figure.ParseFigures(figure.FormatFigures(f))
		wantSame(t, figure.FormatFigures(f), g, e, f, api.OK)
	}
}

// anyFigures is figures of any size and sign.
func anyFigures(r *rand.Rand) api.Figures {
	var f api.Figures
	for i := range f.Known {
		if r.Intn(3) > 0 {
			size := anyOf(r, 1, 10, 100000, 10*mostTail)
			a, b := r.Intn(2*size-1)-size+1, r.Intn(2*size-1)-size+1
			f.Known[i], f.Values[i] = true, span(min(a, b), max(a, b))
		}
	}
	return f
}
