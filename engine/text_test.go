package engine_test

import (
	"math/rand"
	"strconv"
	"strings"
	"testing"

	"shoebox/api"
	"shoebox/engine"
)

const plainText = "graph p\ninput mic\ndelay d mic 0 3\nsum mix mic 0 500 d 0 1000\noutput out mix 0\n"

// rich is a graph with all that a text can have, in which names are those of later units, too.
func rich() api.EngineGraph {
	g := graphOf(
		named("out", behind(4, output(1, 64))),
		named("mix", sum(taken{5, 0, -4000}, taken{3, 7, 0}, taken{2, 64, 999})),
		named("Filter-1", behind(5, filtered(4, 3, half(), section(16384, 0, -1, 0, 0)))),
		named("none", filtered(2, 0)),
		named("d", behind(5, delay(5, 1, 64))),
		named("graph", input()),
		named("cascade", behind(5, input())),
	)
	g.Name = "stand"
	return g
}

const richText = `graph stand
output out stand d mix 64
sum mix graph 0 -4000 none 7 0 Filter-1 64 999
filter Filter-1 stand graph d 3 cascade 8192 0 0 -8192 0;16384 0 -1 0 0
filter none Filter-1 0 cascade
delay d stand graph graph 1 64
input graph
input cascade stand graph
`

// P9.6: the texts of graphs.
func TestPrint(t *testing.T) {
	for _, c := range []struct {
		g    api.EngineGraph
		text string
	}{
		{plain(), plainText}, {rich(), richText}, {graphOf(), "graph g\n"},
	} {
		s, e := engine.Print(c.g)
		wantSame(t, "Print", s, e, c.text, api.OK)
		g, m, e := engine.Parse(c.text)
		wantSame(t, "Parse", g, e, c.g, api.OK)
		wantSame(t, "its mark", m, e, api.TextMark{}, api.OK)
	}
}

// P9.11: Parse undoes Print of right graphs.
func TestParseUndoesPrint(t *testing.T) {
	r := rand.New(rand.NewSource(10))
	for range 300 {
		g := anyGraph(r, 24)
		s, e := engine.Print(g)
		wantErrno(t, "Print", e, api.OK)
		back, m, e := engine.Parse(s)
		wantSame(t, "Parse", back, e, g, api.OK)
		wantSame(t, "its mark", m, e, api.TextMark{}, api.OK)
	}
}

// P9.6: blanks, tabs and empty lines do not matter, the order of lines does.
func TestParseForms(t *testing.T) {
	for _, text := range []string{
		strings.TrimSuffix(richText, "\n"),
		"\n\n \t\n" + richText + "\n\t",
		strings.ReplaceAll(richText, " ", " \t "),
		" " + strings.ReplaceAll(richText, "\n", "\t\n "),
		strings.ReplaceAll(richText, "\n", "\n\n"),
	} {
		g, m, e := engine.Parse(text)
		wantSame(t, "Parse", g, e, rich(), api.OK)
		wantSame(t, "its mark", m, e, api.TextMark{}, api.OK)
	}
	g, _, e := engine.Parse("graph g\noutput b a 0\ninput a")
	wantSame(t, "turned", g, e, graphOf(named("b", output(1, 0)), named("a", input())), api.OK)
	// circles are no error
	g, _, e = engine.Parse("graph g\noutput a b 0\noutput b stand b a 0")
	wantSame(t, "a circle", g, e, graphOf(output(1, 0), behind(1, output(0, 0))), api.OK)
}

// P9.6: nothing but blanks and tabs stands between words.
func TestParseBlanks(t *testing.T) {
	for _, other := range []string{"\x00", "\x08", "\v", "\f", "\r", "\x1f", "!", "\x7f", "\u00a0", "\u2003"} {
		wantParse(t, "graph"+other+"g", 1, 1, api.ErrSyntax)
		wantParse(t, "graph g"+other, 1, 7, api.ErrName)
		wantParse(t, other+"\ngraph g", 1, 1, api.ErrSyntax)
		wantParse(t, "graph g\ninput a\noutput b a 0"+other, 3, 12, api.ErrSyntax)
	}
}

func wantParse(t *testing.T, text string, line, column int, want api.Errno) {
	t.Helper()
	g, m, e := engine.Parse(text)
	if textOf(g) != textOf(api.EngineGraph{}) || m != (api.TextMark{Line: line, Column: column}) || e != want {
		t.Errorf("%q: %v, %v, %d, want %d:%d, %d", text, g, m, e, line, column, want)
	}
}

// P9.6: first words, and texts without a graph.
func TestParseFirstWords(t *testing.T) {
	wantParse(t, "", 1, 1, api.ErrMissing)
	wantParse(t, "\n", 2, 1, api.ErrMissing)
	wantParse(t, " ", 2, 1, api.ErrMissing)
	wantParse(t, "\n\t", 3, 1, api.ErrMissing)
	wantParse(t, "\n\t\n\n", 4, 1, api.ErrMissing)
	wantParse(t, "\r\n", 1, 1, api.ErrSyntax)
	wantParse(t, "Graph g", 1, 1, api.ErrSyntax)
	wantParse(t, "graphs g", 1, 1, api.ErrSyntax)
	wantParse(t, "\n \t\tinput a\n", 2, 4, api.ErrSyntax)
	for _, w := range []string{"graph", "Input", "inputs", "stand", "cascade", "a", "-", "0", "mix"} {
		wantParse(t, "graph g\n\n "+w+" a\nx", 3, 2, api.ErrSyntax)
	}
	// the first wrong line, though names are missing ahead of it
	wantParse(t, "graph g\noutput a b 0\nx", 3, 1, api.ErrSyntax)
}

// P9.6: each word of each form: if it is missing, if it is wrong, and one word more.
func TestParseEachWord(t *testing.T) {
	head := "graph g\ninput a\ninput b\n"
	for _, form := range []struct {
		head, line string
		// w: a word that stands for itself, n: a name, d: a number; in capitals if it can be left away
		kinds string
		ends  bool
	}{
		{"", "graph g", "wn", true},
		{head, "input x", "wn", true},
		{head, "input x stand a", "wnWn", true},
		{head, "delay x a 1 2", "wnndd", true},
		{head, "delay x stand b a -1 2", "wnwnndd", true},
		{head, "output x a 0", "wnnd", true},
		{head, "output x stand b a 999999", "wnwnnd", true},
		{head, "sum x a 1 2", "wnndd", false},
		{head, "sum x stand b a 1 2", "wnwnndd", false},
		{head, "sum x a 1 2 b -3 -4", "wnnddNdd", false},
		{head, "filter x a 1 cascade 1 2 3 4 5", "wnndwxxxxx", false},
		{head, "filter x stand b a 1 cascade", "wnwnndw", false},
	} {
		words := strings.Fields(form.line)
		line := strings.Count(form.head, "\n") + 1
		for i := range words {
			testWord(t, form.head, line, words, i, form.kinds[i])
		}
		if form.ends {
			wantParse(t, form.head+form.line+" more x", line, len(form.line)+2, api.ErrSyntax)
			wantParse(t, form.head+form.line+"\t5", line, len(form.line)+2, api.ErrSyntax)
		}
	}
}

// testWord leaves the words from number i on away, and then writes wrong ones in its place.
func testWord(t *testing.T, head string, line int, words []string, i int, kind byte) {
	t.Helper()
	before := strings.Join(words[:i], " ")
	isForm := strings.ContainsRune("wnd", rune(kind))
	if i > 0 && isForm && words[i] != "stand" {
		wantParse(t, head+before+" \t \n"+"x", line, len(before)+1, api.ErrMissing)
		wantParse(t, head+before, line, len(before)+1, api.ErrMissing)
	}
	if i > 0 {
		before += " "
	}
	rest := " " + strings.Join(words[i+1:], " ")
	wrong, want := []string{"x", "0", words[i] + "x", strings.ToUpper(words[i])}, api.ErrSyntax
	switch {
	case words[i] == "stand" && kind == 'w':
		// it is a name then, of what the unit takes from, and a number is missing behind it
		wantParse(t, head+before+"Stand"+rest, line, len(before)+7, api.ErrSyntax)
		return
	case kind == 'n' || kind == 'N':
		wrong, want = []string{"0", "-a", "a_b", "abcdefghijklm", "a\r", "ä"}, api.ErrName
	case kind == 'd':
		wrong = []string{"x", "1000000", "01", "00", "-0", "-00", "-01", "+1", "1.", "--1", "-", "1-", "0x1", "1e3", "-1000000", "1\r", "/", ":", "stand"}
	case kind == 'x':
		return
	}
	for _, w := range wrong {
		wantParse(t, head+before+w+rest, line, len(before)+1, want)
		wantParse(t, head+before+w, line, len(before)+1, want)
	}
}

// P9.6: names behind "stand", and of units.
func TestParseStands(t *testing.T) {
	wantParse(t, "graph p\ninput a stand\n", 2, 14, api.ErrMissing)
	wantParse(t, "graph p\ninput a stand -", 2, 15, api.ErrName)
	wantParse(t, "graph p\ninput a stand a stand", 2, 17, api.ErrSyntax)
	wantParse(t, "graph p\ndelay a stand stand b 0 0", 2, 15, api.ErrMissing)
	wantParse(t, "graph p\ninput b\ndelay a b 0 0 stand b", 3, 15, api.ErrSyntax)
	wantParse(t, "graph p\ninput b\nsum a b 0 0 stand b", 3, 19, api.ErrSyntax)
	// the form lets a unit have this name, the graph does not
	wantParse(t, "graph p\ninput b\ninput stand\n", 3, 1, api.ErrName)
	wantParse(t, "graph p\ninput stand stand stand\n", 2, 1, api.ErrName)
	wantParse(t, "graph p\ninput stand x\n", 2, 13, api.ErrSyntax)
}

// P9.6: names that no unit has are told behind all lines, in the order of the words, ahead of cascades and of the graph.
func TestParseMissingNames(t *testing.T) {
	wantParse(t, "graph p\noutput out mix 0\n", 2, 12, api.ErrMissing)
	wantParse(t, "graph p\ninput a stand b", 2, 15, api.ErrMissing)
	wantParse(t, "graph p\noutput a stand x y 0", 2, 16, api.ErrMissing)
	wantParse(t, "graph p\noutput a stand a y 0", 2, 18, api.ErrMissing)
	wantParse(t, "graph p\nsum s t 0 0 s 0 0 u 0 0\ninput t", 2, 19, api.ErrMissing)
	wantParse(t, "graph p\nsum s x 0 0 y 0 0 u 0 0", 2, 7, api.ErrMissing)
	wantParse(t, "graph p\n\n  input a\n\tdelay  b\tx 0 0\noutput c y 0", 4, 11, api.ErrMissing)
	wantParse(t, "graph p\nfilter f a 0 cascade 1\noutput a A 0", 3, 10, api.ErrMissing)
	wantParse(t, "graph p\ninput a\ninput a\noutput c x 0", 4, 10, api.ErrMissing)
	wantParse(t, "graph p\nfilter f f 0 cascade\noutput c p 0", 3, 10, api.ErrMissing)
}

// P9.6: cascades are told behind all names, at the word, and ahead of the graph.
func TestParseCascades(t *testing.T) {
	head := "graph p\ninput a\n"
	for _, c := range []struct {
		text string
		want api.Errno
	}{
		{"1 2", api.ErrSyntax},
		{"1 2 3 4 5 6", api.ErrSyntax},
		{"x", api.ErrSyntax},
		{";", api.ErrSyntax},
		{"1 2 3 4 5;", api.ErrSyntax},
		{"1 2 3 4 5 ;1 2 3 4 5", api.ErrSyntax},
		{"1 2 3 4 5; 1 2 3 4 5", api.ErrSyntax},
		{"01 2 3 4 5", api.ErrSyntax},
		{"32769 2 3 4 5", api.ErrRange},
		{"1 2 3 4 -32769", api.ErrRange},
		{strings.Repeat("1 2 3 4 5;", 6) + "1 2 3 4 5", api.ErrLarge},
	} {
		wantParse(t, head+"filter b a 0 cascade "+c.text, 3, 14, c.want)
		wantParse(t, head+"\n\tfilter b stand a  a 0  cascade\t"+c.text+"\ninput a\n", 4, 25, c.want)
		wantParse(t, head+"filter a a 0 cascade 1 2 3 4 5\nfilter c a 0 cascade "+c.text, 4, 14, c.want)
	}
	wantParse(t, head+"filter b a 0 cascade 32769 2 3 4 5\nfilter c a 0 cascade x", 3, 14, api.ErrRange)
	g, _, e := engine.Parse(head + "filter  b\ta 0 cascade\t1  2 3 4\t5;6 7 8 9 10  ")
	wantSame(t, "two sections", g.Units[1].Cascade, e, []api.FilterSection{section(1, 2, 3, 4, 5), section(6, 7, 8, 9, 10)}, api.OK)
	g, _, e = engine.Parse(head + "filter cascade a 0 cascade\noutput b cascade 0")
	wantSame(t, "no sections", g.Units[1], e, named("cascade", filtered(0, 0)), api.OK)
}

// P9.6: the errors of a graph that is read are told at the lines of its units, or at that of the graph.
func TestParseWrongGraphs(t *testing.T) {
	head := "\n graph p\n\ninput a\n \ninput b\n"
	for _, c := range []struct {
		text string
		want api.Errno
	}{
		{"input a", api.ErrExists},
		{"output b a 0", api.ErrExists},
		{"sum c a 0 0 a 0 0", api.ErrDouble},
		{"output c a -1", api.ErrRange},
		{"output c a 65", api.ErrRange},
		{"delay c a 0 65", api.ErrRange},
		{"delay c a 0 -1", api.ErrRange},
		{"sum c a 0 4001", api.ErrRange},
		{"sum c a 0 0 b 0 -4001", api.ErrRange},
		{"sum c a 0 0 b 0 0 d 0 0 e 0 0 f 0 0 h 0 0 i 0 0\ninput d\ninput e\ninput f\ninput h\ninput i", api.ErrShape},
		{"input stand", api.ErrName},
	} {
		wantParse(t, head+c.text, 7, 1, c.want)
		wantParse(t, head+"\t\n "+c.text+"\noutput a b 999999", 8, 1, c.want)
	}
	var many []string
	for i := range 25 {
		many = append(many, "input a"+strconv.Itoa(i))
	}
	wantParse(t, "\n\n graph g\n"+strings.Join(many, "\n"), 3, 1, api.ErrLarge)
	many[0] = "input stand"
	wantParse(t, "graph g\n"+strings.Join(many, "\n"), 1, 1, api.ErrLarge)
	wantParse(t, "graph g\n"+strings.Join(many[:24], "\n"), 2, 1, api.ErrName)
	_, _, e := engine.Parse("graph g\n" + strings.Join(many[1:], "\n"))
	wantErrno(t, "24 units", e, api.OK)
}

// P9.6: texts of more than MaxText bytes are too large, whatever they are.
func TestParseLargeTexts(t *testing.T) {
	fill := strings.Repeat(" ", api.MaxText-len(plainText))
	g, m, e := engine.Parse(plainText + fill)
	wantSame(t, "60000 bytes", g, e, plain(), api.OK)
	wantSame(t, "its mark", m, e, api.TextMark{}, api.OK)
	wantParse(t, plainText+fill+" ", 0, 0, api.ErrLarge)
	wantParse(t, strings.Repeat("x", api.MaxText+1), 0, 0, api.ErrLarge)
	wantParse(t, strings.Repeat("\n", api.MaxText), api.MaxText+1, 1, api.ErrMissing)
	wantParse(t, strings.Repeat("x", api.MaxText), 1, 1, api.ErrSyntax)
	wantParse(t, "graph g\nsum s "+strings.Repeat("s 0 0 ", 9000), 2, 1, api.ErrShape)
}

// P1: no text stops Parse, cut off or changed at any byte.
func TestParseSpoiledTexts(t *testing.T) {
	isAnyRight := false
	for i := range len(richText) {
		cut := richText[:i]
		for _, text := range []string{cut, cut + "\x00" + richText[i:], cut + "\n" + richText[i:], cut + richText[i+1:], cut + "\xff", cut + " " + richText[i:]} {
			g, m, e := engine.Parse(text)
			isAnyRight = isAnyRight || e == api.OK
			if (e == api.OK) != (m == api.TextMark{}) || e != api.OK && textOf(g) != textOf(api.EngineGraph{}) {
				t.Errorf("%q: %v, %v, %d", text, g, m, e)
			}
		}
	}
	if !isAnyRight {
		t.Errorf("none of them was right")
	}
}
