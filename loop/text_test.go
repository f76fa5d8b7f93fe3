package loop_test

import (
	"math/rand"
	"strings"
	"testing"

	"shoebox/api"
	"shoebox/loop"
)

// P8.6: the text of any margin.
func TestFormatMargin(t *testing.T) {
	for _, c := range []struct {
		margin api.LoopMargin
		want   string
	}{
		{margin("open", 1500), "open 1500"}, {margin("a", 0), "a 0"}, {margin("", 0), " 0"}, {margin("a b", -7), "a b -7"}, {margin("\n\x00", 123456789), "\n\x00 123456789"},
		{margin("x", leastInt), "x -9223372036854775808"}, {margin("x", greatestInt), "x 9223372036854775807"},
	} {
		wantSame(t, "FormatMargin", loop.FormatMargin(c.margin), 0, c.want, 0)
	}
}

// P8.6: the margins of texts.
func TestParseMargin(t *testing.T) {
	for s, want := range map[string]api.LoopMargin{
		"open 1500": margin("open", 1500), "a 0": margin("a", 0), "Z-9- 4000": margin("Z-9-", 4000), "abcdefghijkl 100": margin("abcdefghijkl", 100), "z0A- 3900": margin("z0A-", 3900),
	} {
		m, e := loop.ParseMargin(s)
		wantSame(t, "ParseMargin of "+s, m, e, want, api.OK)
	}
}

// P8.6: what is no text of a margin.
func TestParseMarginErrors(t *testing.T) {
	for want, l := range map[api.Errno][]string{
		api.ErrSyntax: {
			"", " ", "open", "open ", "a 1 ", "a  100", "  100", "a 100 ", "a b 100", " a 100", "a 100 100", "a x", "a 1x", "a +100", "a 0100", "a 00", "a -0", "a 100000", "a -100000", "a 000100", "a 9223372036854775808",
			"a 99999999999999999999", "a -", "a --1", "a 1-", "a\t100", "a\n100", "a 100\n", "a 100\t", "a \t100", "a 0x10", "a 1_0", "a 1e2", "a 100.", "a ١٠٠", "a 1\x00", "100", "-100", "9 100x", " x", "\x00",
		},
		api.ErrName: {
			"9 100", " 100", " 0", "-a 100", "abcdefghijklm 100", "a_b 100", "a.b 100", "é 100", "aé 100", "a\tb 100", "\ta 100", "a\x00 100", "\n 100", "9 150", " 99999", "@ 100", "[ 100", "` 100", "{ 100", "a@ 100", "a[ 100", "a` 100", "a{ 100", "a/ 100", "a: 100", "a, 100", "/ 0", "9 -5", strings.Repeat("a", 1000) + " 0",
		},
		api.ErrRange: {
			"a 150", "a 4100", "a -100", "a 1", "a 99", "a 101", "a 3999", "a 4001", "a 99999", "a -99999", "a -1", "a -4000", "a 50", "a 10000",
		},
	} {
		for _, s := range l {
			m, e := loop.ParseMargin(s)
			wantSame(t, "ParseMargin of "+s, m, e, api.LoopMargin{}, want)
		}
	}
}

// anyName is a name.
func anyName(r *rand.Rand) string {
	const letters, others = "AMZamz", "-059"
	var s strings.Builder
	s.WriteByte(letters[r.Intn(len(letters))])
	for range r.Intn(12) {
		all := letters + others
		s.WriteByte(all[r.Intn(len(all))])
	}
	return s.String()
}

// P8.11: right margins come back.
func TestMarginsComeBack(t *testing.T) {
	r := rand.New(rand.NewSource(811))
	for i := range 1000 {
		want := margin(anyName(r), i%41*100)
		m, e := loop.ParseMargin(loop.FormatMargin(want))
		wantSame(t, "ParseMargin", m, e, want, api.OK)
	}
}

// P8.6, P1: any text ends without a panic, and what is taken is written the same way.
func TestAnyText(t *testing.T) {
	r := rand.New(rand.NewSource(86))
	taken := 0
	for range 20000 {
		var s strings.Builder
		for range from(r, 2, 4) {
			s.WriteString(anyOf(r, " ", " ", "0", "100", "1500", "a", "-", "open", "-9", "\x00", "\xff"))
		}
		m, e := loop.ParseMargin(s.String())
		if e == api.OK {
			wantSame(t, "FormatMargin", loop.FormatMargin(m), e, s.String(), api.OK)
			taken++
		} else {
			wantSame(t, "ParseMargin", m, 0, api.LoopMargin{}, 0)
		}
	}
	if taken < 100 {
		t.Errorf("only %d texts were taken", taken)
	}
}
