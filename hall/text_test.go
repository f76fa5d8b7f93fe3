package hall_test

import (
	"reflect"
	"strings"
	"testing"

	"shoebox/api"
	"shoebox/hall"
)

// small is the text of the chapter's last example.
const small = "hall g height 300 floor w ceiling w\nmaterial w 0 0 0 0 scatter 0\ncorner 0 0 wall a w\ncorner 10 0 wall b w\ncorner 0 10 wall c w\n"

const boxText = `hall h height 600 floor w ceiling w
material w 100 100 100 100 scatter 0
material v 500 500 500 500 scatter 0
corner 0 0 wall a w
corner 1000 0 wall b w curtain v
corner 1000 2000 wall c w
corner 0 2000 wall d w
canopy k w 200 500 800 900 heights 400 500
seat s 500 1900 100
seat t 500 700 550
`

// P1.7: the texts of halls.
func TestPrint(t *testing.T) {
	if text, e := hall.Print(box()); text != boxText || e != api.OK {
		t.Errorf("box: %q, %d", text, e)
	}
	wide := triangle()
	wide.Corners = []api.HallCorner{{X: -5000, Y: -5000}, {X: 5000, Y: -5000}, {X: -5000, Y: 5000}}
	text, e := hall.Print(wide)
	if !strings.Contains(text, "\ncorner 5000 -5000 wall n1 w\n") || e != api.OK {
		t.Errorf("wide: %q, %d", text, e)
	}
}

// P1.12: Parse undoes Print of right halls.
func TestParseUndoesPrint(t *testing.T) {
	for _, h := range []api.Hall{box(), wedge(), triangle(), stairs(5), crowded()} {
		text, e := hall.Print(h)
		wantErrno(t, "Print", e, api.OK)
		back, m, e := hall.Parse(text)
		if !reflect.DeepEqual(back, h) || m != (api.TextMark{}) || e != api.OK {
			t.Errorf("%q comes back as %v, %v, %d", text, back, m, e)
		}
	}
}

// crowded has the most that a hall may have of all but walls.
func crowded() api.Hall {
	h := box()
	h.Materials, h.Canopies, h.Seats = nil, nil, nil
	for _, c := range "wvcdefghij" {
		h.Materials = append(h.Materials, api.HallMaterial{Name: string(c) + "-xxxxxxxxxx", Absorbed: [api.Bands]int{1000, 0, 1, 10}, Scattered: 999})
	}
	h.Floor, h.Ceiling = h.Materials[9].Name, h.Materials[8].Name
	for i := range h.Walls {
		h.Walls[i].Material, h.Walls[i].Curtain = h.Materials[i].Name, h.Materials[i+1].Name
	}
	for _, c := range "klmn" {
		h.Canopies = append(h.Canopies, api.HallCanopy{
			Name: string(c), Material: h.Floor,
			From: api.HallCorner{X: 999, Y: 1}, To: api.HallCorner{X: 1, Y: 1999}, Heights: []int{1, 9, 99, 599},
		})
	}
	for _, a := range "abcd" {
		for _, b := range "0123456789" {
			h.Seats = append(h.Seats, api.HallSeat{Name: string(a) + string(b), At: place(999, 1999, 599)})
		}
	}
	return h
}

// P1.7: blanks, tabs, empty lines and the order of different lines do not matter; that of lines of one list does.
func TestParseForms(t *testing.T) {
	want, _, _ := hall.Parse(small)
	for _, text := range []string{
		strings.TrimSuffix(small, "\n"),
		"\n\n \t\n" + small + "\n\t",
		strings.ReplaceAll(small, " ", " \t "),
		" " + strings.ReplaceAll(small, "\n", "\t\n "),
		"hall g height 300 floor w ceiling w\ncorner 0 0 wall a w\ncorner 10 0 wall b w\ncorner 0 10 wall c w\nmaterial w 0 0 0 0 scatter 0",
	} {
		if h, m, e := hall.Parse(text); !reflect.DeepEqual(h, want) || m != (api.TextMark{}) || e != api.OK {
			t.Errorf("%q: %v, %v, %d", text, h, m, e)
		}
	}
	turned := "hall g height 300 floor w ceiling w\ncorner 10 0 wall b w\nmaterial w 0 0 0 0 scatter 0\nmaterial v 1 2 3 4 scatter 5\ncorner 0 10 wall c w curtain v\ncorner 0 0 wall a w\n"
	h, _, e := hall.Parse(turned)
	if e != api.OK || h.Walls[0].Name != "b" || h.Walls[1] != (api.HallWall{Name: "c", Material: "w", Curtain: "v"}) || h.Corners[2] != (api.HallCorner{}) {
		t.Errorf("turned: %v, %d", h, e)
	}
	if h.Materials[1] != (api.HallMaterial{Name: "v", Absorbed: [api.Bands]int{1, 2, 3, 4}, Scattered: 5}) {
		t.Errorf("materials: %v", h.Materials)
	}
	if h, m, e := hall.Parse(boxText); !reflect.DeepEqual(h, box()) || m != (api.TextMark{}) || e != api.OK {
		t.Errorf("box: %v, %v, %d", h, m, e)
	}
}

func wantParse(t *testing.T, text string, line, column int, errno api.Errno) {
	t.Helper()
	h, m, e := hall.Parse(text)
	if !reflect.DeepEqual(h, api.Hall{}) || m != (api.TextMark{Line: line, Column: column}) || e != errno {
		t.Errorf("%q: %v, %v, %d, want %d:%d, %d", text, h, m, e, line, column, errno)
	}
}

// P1.7: the errors of first words, and of texts without a hall.
func TestParseFirstWords(t *testing.T) {
	wantParse(t, "", 1, 1, api.ErrMissing)
	wantParse(t, "\n", 2, 1, api.ErrMissing)
	wantParse(t, " ", 2, 1, api.ErrMissing)
	wantParse(t, "\n ", 3, 1, api.ErrMissing)
	wantParse(t, "\n\t\n\n", 4, 1, api.ErrMissing)
	wantParse(t, "\r\n", 1, 1, api.ErrSyntax)
	wantParse(t, "Hall g", 1, 1, api.ErrSyntax)
	wantParse(t, "\n  \tmaterial w 0 0 0 0 scatter 0\n", 2, 4, api.ErrSyntax)
	head := "\nhall g height 300 floor w ceiling w\n"
	wantParse(t, head, 2, 1, api.ErrMissing)
	wantParse(t, head+head, 4, 1, api.ErrSyntax)
	wantParse(t, head+"\n Seat", 4, 2, api.ErrSyntax)
	wantParse(t, head+"floor", 3, 1, api.ErrSyntax)
	wantParse(t, head+"-", 3, 1, api.ErrSyntax)
	// the first wrong line, though the hall ahead of it is wrong too
	wantParse(t, "hall g height 0 floor w ceiling w\nx\ny", 2, 1, api.ErrSyntax)
}

// P1.7: each word of each form: if it is missing, if it is wrong, and one word more. A wrong hall is told behind all lines.
func TestParseEachWord(t *testing.T) {
	head := "hall g height 300 floor w ceiling w\n"
	for _, form := range []struct {
		head, line string
		// n: a name, d: a number, others are words that stand for themselves
		kinds string
	}{
		{"", "hall g height 300 floor w ceiling w", "wnwdwnwn"},
		{head, "material w 0 10 1000 -5 scatter 0", "wnddddwd"},
		{head, "corner -10 999999 wall a w", "wddwnn"},
		{head, "corner 10 20 wall a w curtain v", "wddwnnwn"},
		{head, "canopy k w 1 2 3 4 heights 5", "wnnddddwd"},
		{head, "canopy k w 1 2 3 4 heights 5 -6 7 8 9", "wnnddddwddddd"},
		{head, "seat s 1 2 3", "wnddd"},
	} {
		words := strings.Fields(form.line)
		line := strings.Count(form.head, "\n") + 1
		for i := range words {
			testWord(t, form.head, line, words, i, form.kinds)
		}
		if !strings.HasPrefix(form.line, "canopy") {
			more := strings.Join(words, " ") + " "
			if form.line != "corner -10 999999 wall a w" {
				wantParse(t, form.head+more+"more x", line, len(more)+1, api.ErrSyntax)
			}
			wantParse(t, form.head+more+"5", line, len(more)+1, api.ErrSyntax)
		}
	}
}

// testWord leaves the words from number i on away, and then writes wrong ones in its place.
func testWord(t *testing.T, head string, line int, words []string, i int, kinds string) {
	t.Helper()
	before := strings.Join(words[:i], " ")
	isOptional := words[i] == "curtain" || i > 8
	if i > 0 && !isOptional {
		wantParse(t, head+before+" \t \n"+"x", line, len(before)+1, api.ErrMissing)
		wantParse(t, head+before, line, len(before)+1, api.ErrMissing)
	}
	if i > 0 {
		before += " "
	}
	rest := " " + strings.Join(words[i+1:], " ")
	wrong := []string{"x", "0", words[i] + "x", strings.ToUpper(words[i])}
	errno := api.ErrSyntax
	switch kinds[i] {
	case 'n':
		wrong, errno = []string{"0", "-a", "a_b", "abcdefghijklm", "a\r"}, api.ErrName
	case 'd':
		wrong = []string{"x", "1000000", "01", "00", "-0", "-00", "-01", "+1", "1.", "--1", "-", "1-", "0x1", "1e3", "-1000000", "1\r", "/", ":"}
	}
	for _, w := range wrong {
		wantParse(t, head+before+w+rest, line, len(before)+1, errno)
		wantParse(t, head+before+w, line, len(before)+1, errno)
	}
}

// P1.7: the errors of a hall that is read are told at the lines of its parts, or at that of the hall.
func TestParseWrongHalls(t *testing.T) {
	for _, c := range []struct {
		old, new string
		line     int
		errno    api.Errno
	}{
		{"height 600", "height 1", 2, api.ErrRange},
		{"height 600", "height -600", 2, api.ErrRange},
		{"floor w", "floor x", 2, api.ErrMissing},
		{"material v 500", "material v 1001", 5, api.ErrRange},
		{"material v", "material w", 5, api.ErrExists},
		{"corner 1000 0 ", "corner 5001 0 ", 8, api.ErrRange},
		{"wall b w", "wall a w", 8, api.ErrExists},
		{"wall d", "wall floor", 11, api.ErrExists},
		{"curtain v", "curtain x", 8, api.ErrMissing},
		{"1000 2000", "1000 2001", 10, api.ErrKind},
		{"heights 400 500", "heights 500 400", 13, api.ErrOrder},
		{"canopy k", "canopy a", 13, api.ErrExists},
		{"seat t", "seat s", 16, api.ErrExists},
		{"500 700 550", "500 700 600", 16, api.ErrBreak},
	} {
		if !strings.Contains(boxText, c.old) {
			t.Fatalf("no %q", c.old)
		}
		// empty lines ahead of all and between the parts move them
		text := "\n" + strings.Replace(boxText, c.old, c.new, 1)
		for _, part := range []string{"material w", "corner 0 0", "corner 1000 200", "canopy", "seat"} {
			text = strings.Replace(text, part, "\n "+part, 1)
		}
		wantParse(t, text, c.line, 1, c.errno)
	}
	two := strings.Replace(boxText, "corner 0 0 wall a w\ncorner 1000 0 wall b w curtain v\n", "", 1)
	wantParse(t, "\n\t\n"+two, 3, 1, api.ErrShape)
	clockwise := "hall g height 300 floor w ceiling w\nmaterial w 0 0 0 0 scatter 0\ncorner 0 0 wall a w\ncorner 0 10 wall b w\ncorner 10 0 wall c w\n"
	wantParse(t, clockwise, 1, 1, api.ErrOrder)
	wantParse(t, strings.Replace(small, "0 10", "0 11", 1), 4, 1, api.ErrKind)
	many := small + strings.Repeat("material x 0 0 0 0 scatter 0\n", 10)
	wantParse(t, many, 1, 1, api.ErrLarge)
}

// P1.7: texts of more than MaxText bytes are too large, whatever they are.
func TestParseLargeTexts(t *testing.T) {
	fill := strings.Repeat(" ", api.MaxText-len(small))
	if _, m, e := hall.Parse(small + fill); m != (api.TextMark{}) || e != api.OK {
		t.Errorf("%d bytes: %v, %d", api.MaxText, m, e)
	}
	wantParse(t, small+fill+" ", 0, 0, api.ErrLarge)
	wantParse(t, strings.Repeat("x", api.MaxText+1), 0, 0, api.ErrLarge)
	wantParse(t, strings.Repeat("\n", api.MaxText), api.MaxText+1, 1, api.ErrMissing)
	wantParse(t, strings.Repeat("x", api.MaxText), 1, 1, api.ErrSyntax)
}

// P1: no text stops Parse, cut off or changed at any byte.
func TestParseSpoiledTexts(t *testing.T) {
	for i := range len(boxText) {
		cut := boxText[:i]
		for _, text := range []string{cut, cut + "\x00" + boxText[i:], cut + "\n" + boxText[i:], cut + boxText[i+1:], cut + "\xff"} {
			h, m, e := hall.Parse(text)
			if (e == api.OK) != (m == api.TextMark{}) || e != api.OK && !reflect.DeepEqual(h, api.Hall{}) {
				t.Errorf("%q: %v, %v, %d", text, h, m, e)
			}
		}
	}
}
