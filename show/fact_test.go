package show_test

import (
	"math/rand"
	"strings"
	"testing"

	"shoebox/api"
	"shoebox/show"
)

var kindWords = []string{"person", "scene", "cue", "go", "setting", "gains", "margin", "figures", "fault", "repair", "note", "seal"}

// P10.5: right texts of all kinds, with the greatest and the least numbers.
func TestRightFacts(t *testing.T) {
	right := map[int][]string{
		api.FactPerson:  {"ann director", "B-2 engineer", "abcdefghijkl operator", "z guest"},
		api.FactScene:   {"a 0", "a 1000", "b-1 0,1000,5,6,7,8,9,10"},
		api.FactCue:     {"1 a 0", "999 abcdefghijkl 1000"},
		api.FactGo:      {"1", "999"},
		api.FactSetting: {"- -", "0,1,2,3 -", "- 0,1,11", "99 99"},
		api.FactGains:   {"0 0", "1000 0;500 400"},
		api.FactMargin:  {"open 0", "b 4000", "x 100"},
		api.FactFigures: {"- - - - - -", "1 2 -3 4 - - 0 0 9999999999999 9999999999999"},
		api.FactFault:   {"0 0", "23 16"},
		api.FactRepair:  {"0", "23"},
		api.FactNote:    {"x", " ", "  x  y  ", "\x00\xff\r\t", strings.Repeat("n", mostLine)},
		api.FactSeal:    {""},
	}
	for kind := range kinds {
		for _, text := range append(right[kind], rightTexts()[kind]) {
			for _, f := range facts(fact(0, "a", kind, text), fact(lastTick, "Abc-d4efghij", kind, text)) {
				wantErrno(t, "CheckFact of "+textOf(f), show.CheckFact(f), api.OK)
				back, e := show.ParseFact(show.FormatFact(f))
				wantSame(t, "ParseFact of "+textOf(f), back, e, f, api.OK)
			}
		}
	}
}

// wrongFacts is facts with errors of more than one kind, the first one of which counts.
func wrongFacts() []struct {
	f     api.ShowFact
	errno api.Errno
} {
	long := strings.Repeat("n", mostLine+1)
	return []struct {
		f     api.ShowFact
		errno api.Errno
	}{
		{fact(-1, "", -1, long), api.ErrRange},
		{fact(lastTick+1, "a", api.FactSeal, ""), api.ErrRange},
		{fact(greatestInt, "a", api.FactSeal, ""), api.ErrRange},
		{fact(leastInt, "a", api.FactSeal, ""), api.ErrRange},
		{fact(0, "", -1, long), api.ErrName},
		{fact(0, "abcdefghijklm", api.FactSeal, ""), api.ErrName},
		{fact(0, "-a", api.FactSeal, ""), api.ErrName},
		{fact(0, "1", api.FactSeal, ""), api.ErrName},
		{fact(0, "a b", api.FactSeal, ""), api.ErrName},
		{fact(0, "a_b", api.FactSeal, ""), api.ErrName},
		{fact(0, "é", api.FactSeal, ""), api.ErrName},
		{fact(0, "*", api.FactSeal, ""), api.ErrName},
		{fact(0, "a", -1, long), api.ErrKind},
		{fact(0, "a", kinds, ""), api.ErrKind},
		{fact(0, "a", greatestInt, ""), api.ErrKind},
		{fact(0, "a", leastInt, ""), api.ErrKind},
		{fact(0, "a", api.FactNote, long), api.ErrLarge},
		{fact(0, "a", api.FactNote, strings.Repeat("\n", mostLine+1)), api.ErrLarge},
		{fact(0, "a", api.FactSeal, long), api.ErrLarge},
		{fact(0, "a", api.FactFigures, long), api.ErrLarge},
	}
}

// wrongTexts is Texts with an error, by the kind and the error.
func wrongTexts() map[int]map[api.Errno][]string {
	return map[int]map[api.Errno][]string{
		api.FactPerson: {api.ErrSyntax: {
			"", " ", "ann", "ann ", "director", " director", "ann  director", "ann director ", " ann director", "ann Director",
			"ann direct", "ann director x", "1 guest", "abcdefghijklm guest", "ann\tguest", "ann 0", "ann,guest",
		}},
		api.FactScene: {
			api.ErrSyntax: {
				"", "a", "a ", " 1", "a  1", "a 1 ", "a 1,", "a ,1", "a 1,,2", "a 1, 2", "a -1", "a 01", "a 00", "a +1", "a x", "a 1000000",
				"a 1,2,3,4,5,6,7,8,9,", "1 1", "abcdefghijklm 1", "a 1 2", "a 1;2", "a -", "a 1.0", "a 0x1", "a 1_0", "a -0", "a 1001,x",
			},
			api.ErrShape: {"a 1,2,3,4,5,6,7,8,9", "a 1001,2,3,4,5,6,7,8,9"},
			api.ErrRange: {"a 1001", "a 0,1000,1001", "a 999999"},
		},
		api.FactCue: {
			api.ErrSyntax: {
				"", "1", "1 a", "1 a ", " a 1", "1  1", "1 a 1 ", " 1 a 1", "1  a 1", "1 a  1", "1 a 1 1", "01 a 1", "1 a 01", "-1 a 1",
				"1 a -1", "1000000 a 1", "1 a 1000000", "x a 1", "1 a x", "1 1a 1", "1 abcdefghijklm 1", "a 1 1", "0 a x", "1,a,1",
			},
			api.ErrRange: {"0 a 1", "1000 a 1", "999999 a 1", "1 a 1001", "1 a 999999", "0 a 1001"},
		},
		api.FactGo: {
			api.ErrSyntax: {"", " ", "1 ", " 1", "01", "-1", "+1", "x", "1000000", "1 1", "1.", "1\n", "99999999999999999999"},
			api.ErrRange:  {"0", "1000", "999999"},
		},
		api.FactRepair: {
			api.ErrSyntax: {"", " ", "1 ", " 1", "01", "-1", "+1", "x", "1000000", "1 1"},
			api.ErrRange:  {"24", "999999"},
		},
		api.FactSetting: {
			api.ErrSyntax: {"", "-", "- - ", "1 2 3", "100 -", "-1 -", "a b", "- -\n"},
			api.ErrLarge:  {"0,0,0,0,0 -", "- 0,1,2,3,4,5,6,7,8,9,10,11,12"},
			api.ErrOrder:  {"- 1,1", "0 2,1"},
		},
		api.FactGains: {
			api.ErrSyntax: {"", "1", "1 1;", "1 1,1 1", "1 100000", "1 1\n"},
			api.ErrLarge:  {"1 1;1 1;1 1;1 1;1 1;1 1;1 1;1 1;1 1"},
			api.ErrRange:  {"-1 0", "0 -1", "99999 0"},
		},
		api.FactMargin: {
			api.ErrSyntax: {"", "open", "open ", "open x", "open 1 1", "open 100000", "open 0\n"},
			api.ErrName:   {" 100", "1 100", "abcdefghijklm 100"},
			api.ErrRange:  {"open 150", "open -100", "open 4100", "open 99999"},
		},
		api.FactFigures: {
			api.ErrSyntax: {"", "-", "- - - - - - -", "1 - - - - -", "1 x - - - - -", "- - - - - -\n"},
			api.ErrOrder:  {"2 1 - - - - -", "- - - - - 1 0"},
		},
		api.FactFault: {
			api.ErrSyntax: {"", "1", "1 ", "x 1", "1 x", "1 1 1", "1000000 1", "1 1\n"},
			api.ErrRange:  {"24 0", "-1 0", "0 -1", "0 17", "999999 0", "0 999999", "24 17"},
		},
		api.FactNote: {api.ErrSyntax: {"", "\n", "a\n", "\na", "a\nb"}},
		api.FactSeal: {api.ErrSyntax: {" ", "x", "0", "\n"}},
	}
}

// P10.5: errors of facts, their order, and that all functions with a fact tell them.
func TestWrongFacts(t *testing.T) {
	state, _, _ := show.Replay(evening())
	wrong := func(f api.ShowFact, want api.Errno) {
		t.Helper()
		wantErrno(t, "CheckFact of "+textOf(f), show.CheckFact(f), want)
		s, e := show.Apply(state, f)
		wantWrong(t, "Apply of "+textOf(f), s, e, want)
		s, n, e := show.Replay(append(evening(), f))
		wantWrong(t, "Replay of "+textOf(f), s, e, want)
		wantSame(t, "its number", n, e, 5, want)
		wantErrno(t, "Add of "+textOf(f), show.NewDesk().Add(f), want)
		// texts of numbers below 0, and of what is no word, are not written right
		isWritten := 0 <= f.Tick && f.Tick <= 999999999 && 0 <= f.Kind && f.Kind < kinds && f.Who != "" && !strings.Contains(f.Who, " ")
		if isWritten {
			back, e := show.ParseFact(show.FormatFact(f))
			wantWrong(t, "ParseFact of "+textOf(f), back, e, want)
		}
	}
	for _, c := range wrongFacts() {
		wrong(c.f, c.errno)
	}
	for kind, errors := range wrongTexts() {
		for want, texts := range errors {
			for _, text := range texts {
				wrong(fact(4, "ann", kind, text), want)
				// the order of ticks, persons and roles come behind
				wrong(fact(0, "eve", kind, text), want)
			}
		}
	}
}

// P10.5: names are names, whichever bytes there are, wherever they stand.
func TestNames(t *testing.T) {
	letters := "ABCDEFGHIJKLMNOPQRSTUVWXYZabcdefghijklmnopqrstuvwxyz"
	for c := range 256 {
		one := string([]byte{byte(c)})
		first := strings.Contains(letters, one)
		further := first || strings.Contains("0123456789-", one)
		for name, isName := range map[string]bool{one: first, one + "a": first, "a" + one: further, "a" + one + "a": further} {
			e := show.CheckFact(fact(0, name, api.FactSeal, ""))
			wantErrno(t, "the name "+name, e, choose(isName, api.OK, api.ErrName))
			wrong := choose(isName, api.OK, api.ErrSyntax)
			for _, f := range facts(fact(0, "a", api.FactPerson, name+" guest"), fact(0, "a", api.FactScene, name+" 1"), fact(0, "a", api.FactCue, "1 "+name+" 1")) {
				wantErrno(t, "CheckFact of "+textOf(f), show.CheckFact(f), wrong)
			}
			_, e = show.CheckProject(project(scene(name, 1)))
			wantErrno(t, "CheckProject", e, choose(isName, api.OK, api.ErrName))
		}
	}
}

// P10.5: texts of facts, whatever they are.
func TestFormatFact(t *testing.T) {
	for kind, word := range kindWords {
		s := show.FormatFact(fact(7, "bob", kind, "x  y "))
		wantSame(t, "FormatFact", s, api.OK, "7 bob "+word+" x  y ", api.OK)
		s = show.FormatFact(fact(0, "bob", kind, ""))
		wantSame(t, "FormatFact without a Text", s, api.OK, "0 bob "+word, api.OK)
	}
	for _, c := range []struct {
		f    api.ShowFact
		want string
	}{
		{fact(-5, "", api.FactSeal, ""), "-5  seal"},
		{fact(leastInt, "a b", api.FactNote, " "), "-9223372036854775808 a b note  "},
		{fact(1, "a", -1, "x"), ""},
		{fact(1, "a", kinds, "x"), ""},
		{fact(1, "a", greatestInt, ""), ""},
		{fact(1, "a", leastInt, ""), ""},
	} {
		wantSame(t, "FormatFact", show.FormatFact(c.f), api.OK, c.want, api.OK)
	}
}

// P10.5: texts that are not written right, and those whose fact is wrong.
func TestParseFact(t *testing.T) {
	for _, s := range []string{
		"", " ", "  ", "   ", "7", "7 ", "7 bob", "7 bob ", "7 bob seal ", "7 bob note ", " 7 bob seal", "7  bob seal", "7 bob  seal", "7  seal", " bob seal",
		"7 bob seals", "7 bob Seal", "7 bob 11", "7 bob x y", "7 bob person ", "x bob seal", "-7 bob seal", "07 bob seal", "+7 bob seal", "00 bob seal",
		"1000000000 bob seal", "99999999999999999999 bob seal", "7\tbob seal", "7 bob seal\n", "\n7 bob seal", "7 bob\tseal", "7 seal", "-0 bob seal", "1_0 bob seal",
		"7 bob seal  ", "7 bob seal x", "7 bob person", "7 bob go", "7 bob note", "7 bob note a\n", "7 bob scene a  1", "٧ bob seal",
	} {
		f, e := show.ParseFact(s)
		wantWrong(t, "ParseFact of "+s, f, e, api.ErrSyntax)
	}
	for _, c := range []struct {
		text string
		want api.Errno
	}{
		{"100000001 bob seal", api.ErrRange},
		{"999999999 1 seal", api.ErrRange},
		{"7 1 seal", api.ErrName},
		{"7 bob\n seal", api.ErrName},
		{"7 abcdefghijklm note x", api.ErrName},
		{"7 bob note " + strings.Repeat("x", mostLine+1), api.ErrLarge},
		{"7 bob scene a 1001", api.ErrRange},
		{"7 bob setting - 2,1", api.ErrOrder},
	} {
		f, e := show.ParseFact(c.text)
		wantWrong(t, "ParseFact of "+c.text, f, e, c.want)
	}
	for _, c := range []struct {
		text string
		want api.ShowFact
	}{
		{"7 bob seal", fact(7, "bob", api.FactSeal, "")},
		{"0 b note a  b ", fact(0, "b", api.FactNote, "a  b ")},
		{"100000000 b note  ", fact(lastTick, "b", api.FactNote, " ")},
		{"1 b note  1 b seal", fact(1, "b", api.FactNote, " 1 b seal")},
		{"3 ann margin open 1500", fact(3, "ann", api.FactMargin, "open 1500")},
	} {
		f, e := show.ParseFact(c.text)
		wantSame(t, "ParseFact of "+c.text, f, e, c.want, api.OK)
	}
}

// P10.13: ParseFact undoes FormatFact of right facts.
func TestTextsOfFacts(t *testing.T) {
	r := rand.New(rand.NewSource(5))
	for range 3000 {
		f := anyFact(r, r.Intn(lastTick-9))
		wantErrno(t, "CheckFact of "+textOf(f), show.CheckFact(f), api.OK)
		back, e := show.ParseFact(show.FormatFact(f))
		wantSame(t, "ParseFact", back, e, f, api.OK)
	}
}
