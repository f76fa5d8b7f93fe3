package array_test

import (
	"math/rand"
	"slices"
	"strings"
	"testing"

	"shoebox/api"
	"shoebox/array"
)

func speakers(l ...[2]int) []api.ArraySpeaker {
	var s []api.ArraySpeaker
	for _, one := range l {
		s = append(s, speaker(place(1, 2, 3), one[0], one[1]))
	}
	return s
}

// P7.5: the text of any gains.
func TestFormatGains(t *testing.T) {
	for _, c := range []struct {
		l    []api.ArraySpeaker
		want string
	}{
		{pair(400).Speakers, "1000 0;500 400"}, {nil, ""}, {[]api.ArraySpeaker{}, ""}, {speakers([2]int{0, 0}), "0 0"}, {speakers([2]int{-5, -123456}), "-5 -123456"},
		{speakers([2]int{leastInt, greatestInt}), "-9223372036854775808 9223372036854775807"}, {[]api.ArraySpeaker{speaker(place(leastInt, 9, 9), 7, 8)}, "7 8"},
		{speakers(slices.Repeat([][2]int{{1, 2}}, 20)...), strings.Repeat("1 2;", 19) + "1 2"},
	} {
		wantSame(t, "FormatGains", array.FormatGains(c.l), 0, c.want, 0)
	}
}

// P7.5: the gains of texts.
func TestParseGains(t *testing.T) {
	l, e := array.ParseGains("1000 0;500 400")
	wantList(t, "ParseGains", l, e, [2]int{1000, 0}, [2]int{500, 400})
	l, e = array.ParseGains("0 10000")
	wantList(t, "ParseGains", l, e, [2]int{0, 10000})
	l, e = array.ParseGains("1 2;3 4;5 6;7 8;9 10;11 12;13 14;1000 10000")
	wantList(t, "ParseGains", l, e, [2]int{1, 2}, [2]int{3, 4}, [2]int{5, 6}, [2]int{7, 8}, [2]int{9, 10}, [2]int{11, 12}, [2]int{13, 14}, [2]int{1000, 10000})
}

// P7.5: what is no text of gains.
func TestParseErrors(t *testing.T) {
	for _, s := range []string{
		"", ";", " ", "1", "1 2;", ";1 2", "1 2;;3 4", "1 2 3", "1  2", " 1 2", "1 2 ", "1 2; 3 4", "1 2 ;3 4", "1 -0", "-0 1", "1 +2", "+1 2", "01 2", "1 02", "1 00", "00 1",
		"x 2", "1 x", "1x 2", "1 2x", "- 2", "1 -", "1 --2", "100000 2", "1 100000", "-100000 2", "1 -100000", "1\t2", "1 2\n", "1\n2", "1 2,3 4", "1,2", "0x1 2", "1_0 2", "1.0 2", "1 2e1",
		"1 9223372036854775808", "99999999999999999999 1", "1 ٣", "\x00", "1 2;3", "1;2", "1 2;3 4;5", "1 000000",
		// what is not written right comes first
		"1001 2;x", "-1 2;3", strings.Repeat("1 2;", 9), strings.Repeat("1 2;", 20) + "1 100000",
	} {
		l, e := array.ParseGains(s)
		wantSame(t, "ParseGains of "+s, len(l), e, 0, api.ErrSyntax)
	}
	for _, s := range []string{strings.Repeat("1 2;", 8) + "1 2", strings.Repeat("1001 2;", 8) + "1 2", strings.Repeat("-1 -2;", 50) + "99999 99999"} {
		l, e := array.ParseGains(s)
		wantSame(t, "ParseGains of "+s, len(l), e, 0, api.ErrLarge)
	}
	for _, s := range []string{
		"1001 2", "1 10001", "-1 2", "1 -1", "99999 2", "1 99999", "-99999 2", "1 -99999", "1 2;1001 2", "1 2;3 4;5 10001", strings.Repeat("1 2;", 7) + "1 -2",
	} {
		l, e := array.ParseGains(s)
		wantSame(t, "ParseGains of "+s, len(l), e, 0, api.ErrRange)
	}
}

// P7.5: arrays with other gains.
func TestWithGains(t *testing.T) {
	a, e := array.WithGains(pair(7), [][2]int{{1, 2}, {3, 4}})
	wantArray(t, "WithGains", a, e, plainArray(speaker(place(0, 0, 0), 1, 2), speaker(place(0, 0, 100), 3, 4)), api.OK)
	a, e = array.WithGains(pair(7), [][2]int{{0, mostDelay}, {mostGain, 0}})
	wantArray(t, "WithGains", a, e, plainArray(speaker(place(0, 0, 0), 0, mostDelay), speaker(place(0, 0, 100), mostGain, 0)), api.OK)
	wrong := [2]int{-1, 0}
	for _, l := range [][][2]int{nil, {}, {{1, 2}}, {{1, 2}, {3, 4}, {5, 6}}, {wrong}, {wrong, wrong, wrong}} {
		a, e := array.WithGains(pair(7), l)
		wantArray(t, "WithGains", a, e, api.Array{}, api.ErrShape)
		a, e = array.WithGains(pair(mostDelay+1), l)
		wantArray(t, "WithGains", a, e, api.Array{}, api.ErrRange)
	}
	for _, one := range [][2]int{{-1, 0}, {0, -1}, {mostGain + 1, 0}, {0, mostDelay + 1}, {leastInt, 0}, {0, leastInt}, {greatestInt, 0}, {0, greatestInt}} {
		a, e := array.WithGains(pair(7), [][2]int{one, {1, 2}})
		wantArray(t, "WithGains", a, e, api.Array{}, api.ErrRange)
		a, e = array.WithGains(pair(7), [][2]int{{1, 2}, one})
		wantArray(t, "WithGains", a, e, api.Array{}, api.ErrRange)
	}
}

// P7.10: of gains that are read WithGains makes an array with just this text; and texts come back.
func TestTextsComeBack(t *testing.T) {
	r := rand.New(rand.NewSource(710))
	for range 1000 {
		a := anyArray(r, 8)
		s := array.FormatGains(a.Speakers)
		l, e := array.ParseGains(s)
		b := a
		b.Speakers = slices.Clone(a.Speakers)
		for i := range b.Speakers {
			b.Speakers[i].Gain, b.Speakers[i].Delay = r.Intn(1000), r.Intn(10000)
		}
		c, f := array.WithGains(b, l)
		wantArray(t, "WithGains", c, f, a, api.OK)
		wantSame(t, "FormatGains", array.FormatGains(c.Speakers), e, s, api.OK)
	}
}

// P7.5, P1: any text ends without a panic, and what is taken is written the same way.
func TestAnyText(t *testing.T) {
	r := rand.New(rand.NewSource(75))
	taken := 0
	for range 20000 {
		var s strings.Builder
		for range r.Intn(4) * 2 {
			s.WriteString(anyOf(r, "0", "1", "7", "12", "-0", "01"[r.Intn(2):], "1000"))
			s.WriteString(anyOf(r, " ", " ", " ", ";", ";", ""))
		}
		text := strings.TrimRight(s.String(), " ;")
		l, e := array.ParseGains(text)
		if e == api.OK {
			wantSame(t, "FormatGains", array.FormatGains(speakers(l...)), e, text, api.OK)
			taken++
		} else {
			wantSame(t, "no gains", len(l), 0, 0, 0)
		}
	}
	if taken < 100 {
		t.Errorf("only %d texts were taken", taken)
	}
}
