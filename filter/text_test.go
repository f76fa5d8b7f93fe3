package filter_test

import (
	"math/rand"
	"strings"
	"testing"

	"shoebox/api"
	"shoebox/filter"
)

// P6.7: the text of any cascade.
func TestFormatCascade(t *testing.T) {
	for _, c := range []struct {
		c    []api.FilterSection
		want string
	}{
		{cascade(half(), pass()), "8192 0 0 -8192 0;16384 0 0 0 0"}, {nil, ""}, {[]api.FilterSection{}, ""}, {cascade(section(1, 2, 3, 4, 5)), "1 2 3 4 5"},
		{cascade(section(-1, -20, 300, -40000, 500000)), "-1 -20 300 -40000 500000"},
		{cascade(fed(leastInt, greatestInt)), "0 0 0 -9223372036854775808 9223372036854775807"},
		{repeated(8, section(6, 7, 8, 9, 0)), strings.Repeat("6 7 8 9 0;", 7) + "6 7 8 9 0"},
	} {
		wantSame(t, "FormatCascade", filter.FormatCascade(c.c), 0, c.want, 0)
	}
}

// P6.7: the cascades of texts.
func TestParseCascade(t *testing.T) {
	c, e := filter.ParseCascade("8192 0 0 -8192 0;16384 0 0 0 0")
	wantList(t, "ParseCascade", c, e, half(), pass())
	c, e = filter.ParseCascade("")
	wantList(t, "ParseCascade of nothing", c, e)
	c, e = filter.ParseCascade("1 -2 32768 -32768 0")
	wantList(t, "ParseCascade", c, e, section(1, -2, mostPart, -mostPart, 0))
	c, e = filter.ParseCascade(strings.Repeat("0 0 0 0 0;", 5) + "0 0 0 0 1")
	wantList(t, "ParseCascade", c, e, append(repeated(5, fed(0, 0)), fed(0, 1))...)
}

// P6.7: what is no text of a cascade.
func TestParseErrors(t *testing.T) {
	for _, s := range []string{
		";", "1 2 3 4", "1 2 3 4 5 6", "1 2 3 4 5;", ";1 2 3 4 5", "1 2 3 4 5;;1 2 3 4 5", "1  2 3 4 5", " 1 2 3 4 5", "1 2 3 4 5 ", "1 2 3 4 5; 1 2 3 4 5",
		"1 2 3 4 5 ;1 2 3 4 5", "1 2 3 4 -0", "1 2 3 4 +5", "1 2 3 4 05", "1 2 3 4 -05", "1 2 3 4 x", "1 2 3 4 5x", "1 2 3 4 -", "1 2 3 4 --5", "1 2 3 4 1000000",
		"1 2 3 4 -1000000", "-1000000 2 3 4 5", "1\t2 3 4 5", "1 2 3 4 5\n", "1 2 3 4 5,1 2 3 4 5", " ", "1 2 3 4 5;1 2 3 4", "1 2 3 4 5;1 2 3 4 5 6", "0x1 2 3 4 5",
		"1_0 2 3 4 5", "1 2 3 4 9223372036854775808", "1 2 3 4 99999999999999999999", "1.0 2 3 4 5", "1 2 3 4 ٣", "1 2 3 4 000000", "\x00", "1 2 3;4 5", "1 2 3 4 5;-",
		// errors of what is written come first
		"32769 2 3 4 5;1", "32769 2 3 4 5;1 2 3 4 x", strings.Repeat("1 2 3 4 5;", 7), strings.Repeat("1 2 3 4 5;", 20) + "1 2 3 4",
	} {
		c, e := filter.ParseCascade(s)
		wantSame(t, "ParseCascade of "+s, len(c), e, 0, api.ErrSyntax)
	}
	for _, s := range []string{
		"32769 2 3 4 5", "1 2 3 4 -32769", "1 2 3 4 999999", "1 2 -999999 4 5", "1 2 3 100000 5", "1 2 3 4 5;1 32769 3 4 5", "1 2 3 4 5;1 2 3 4 5;1 2 32769 4 5",
	} {
		c, e := filter.ParseCascade(s)
		wantSame(t, "ParseCascade of "+s, len(c), e, 0, api.ErrRange)
	}
	for _, s := range []string{strings.Repeat("1 2 3 4 5;", 6) + "1 2 3 4 5", "99999 2 3 4 5;" + strings.Repeat("1 2 3 4 5;", 50) + "1 2 3 4 5"} {
		c, e := filter.ParseCascade(s)
		wantSame(t, "ParseCascade of "+s, len(c), e, 0, api.ErrLarge)
	}
}

// P6.12: ParseCascade undoes FormatCascade of right cascades, and the other way round.
func TestTextsComeBack(t *testing.T) {
	r := rand.New(rand.NewSource(616))
	for range 1000 {
		c := anyCascade(r, 6)
		s := filter.FormatCascade(c)
		again, e := filter.ParseCascade(s)
		wantList(t, "ParseCascade", again, e, c...)
		wantSame(t, "FormatCascade", filter.FormatCascade(again), e, s, api.OK)
	}
}

// P6.7, P1: any text ends without a panic, and what is taken is written the same way.
func TestAnyText(t *testing.T) {
	r := rand.New(rand.NewSource(617))
	taken := 0
	for range 20000 {
		var s strings.Builder
		for range r.Intn(3) * 5 {
			s.WriteString(anyOf(r, "0", "1", "-7", "12", "-0", "01"[r.Intn(2):], "32768"))
			s.WriteString(anyOf(r, " ", " ", " ", " ", " ", " ", ";", "  "))
		}
		text := strings.TrimRight(s.String(), " ;")
		c, e := filter.ParseCascade(text)
		if e == api.OK {
			wantSame(t, "FormatCascade", filter.FormatCascade(c), e, text, api.OK)
			taken++
		} else {
			wantSame(t, "ParseCascade of "+text, len(c), e, 0, api.ErrSyntax)
		}
	}
	if taken < 100 {
		t.Errorf("only %d texts were taken", taken)
	}
}
