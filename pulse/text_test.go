package pulse_test

import (
	"slices"
	"strings"
	"testing"

	"shoebox/api"
	"shoebox/pulse"
)

// P4.9: the texts of registers, whatever they are.
func TestFormatRegister(t *testing.T) {
	for _, c := range []struct {
		r    api.PulseRegister
		want string
	}{
		{two(), "2 1 2"},
		{register(8, 1, 2, 7, 8), "8 1 2 7 8"},
		{api.PulseRegister{}, "0"},
		{register(7, list()...), "7"},
		{register(-5, 0, -1), "-5 0 -1"},
		{register(1000000000, 12, 5, 5), "1000000000 12 5 5"},
		{register(leastInt, greatestInt), "-9223372036854775808 9223372036854775807"},
	} {
		if s := pulse.FormatRegister(c.r); s != c.want {
			t.Errorf("%v: %q, want %q", c.r, s, c.want)
		}
	}
}

// P4.9: the registers with texts, and the errors of texts.
func TestParseRegister(t *testing.T) {
	for _, c := range []struct {
		s    string
		want api.Errno
	}{
		{"", api.ErrSyntax},
		{" ", api.ErrSyntax},
		{"2 1  2", api.ErrSyntax},
		{" 2 1 2", api.ErrSyntax},
		{"2 1 2 ", api.ErrSyntax},
		{"2 1 2\n", api.ErrSyntax},
		{"2\t1 2", api.ErrSyntax},
		{"2 1\u00a02", api.ErrSyntax},
		{"2,1,2", api.ErrSyntax},
		{"02 1 2", api.ErrSyntax},
		{"2 01 2", api.ErrSyntax},
		{"2 1 00", api.ErrSyntax},
		{"2 +1 2", api.ErrSyntax},
		{"2 -0 2", api.ErrSyntax},
		{"2 - 2", api.ErrSyntax},
		{"2 --1 2", api.ErrSyntax},
		{"2 -01 2", api.ErrSyntax},
		{"2 1_0 2", api.ErrSyntax},
		{"2 0x1 2", api.ErrSyntax},
		{"2 1.0 2", api.ErrSyntax},
		{"2 1e0 2", api.ErrSyntax},
		{"2 a 2", api.ErrSyntax},
		{"2 \u0661 2", api.ErrSyntax},
		{"2 1 2\x00", api.ErrSyntax},
		{"1000000000", api.ErrSyntax},
		{"2 1 1000000000", api.ErrSyntax},
		{"-1000000000", api.ErrSyntax},
		{"18446744073709551618 1 2", api.ErrSyntax},
		{strings.Repeat("9", 5000), api.ErrSyntax},
		{"0 1 x", api.ErrSyntax},
		{"999999999", api.ErrRange},
		{"-999999999 1", api.ErrRange},
		{"3 1 999999999", api.ErrRange},
		{"3 -999999999 3", api.ErrRange},
		{"-2 1 2", api.ErrRange},
		{"2 0 2", api.ErrRange},
		{"2 -1 2", api.ErrRange},
		{"0", api.ErrRange},
		{"1 1", api.ErrRange},
		{"9 9", api.ErrRange},
		{"2", api.ErrShape},
		{"3 2 1 3", api.ErrOrder},
		{"3 3 3", api.ErrOrder},
		{"2" + strings.Repeat(" 2", 5000), api.ErrOrder},
		{"3 1 2", api.ErrMissing},
	} {
		r, e := pulse.ParseRegister(c.s)
		wantErrno(t, "the text "+c.s[:min(len(c.s), 30)], e, c.want)
		if r.Length != 0 || len(r.Taps) > 0 {
			t.Errorf("%q: %v", c.s, r)
		}
	}
	if r, e := pulse.ParseRegister("2 1 2"); r.Length != 2 || !slices.Equal(r.Taps, list(1, 2)) || e != api.OK {
		t.Errorf("the example: %v, error %d", r, e)
	}
}

// P4.14: ParseRegister undoes FormatRegister of right registers.
func TestTextsOfAllRegisters(t *testing.T) {
	for _, x := range allRegisters() {
		r, e := pulse.ParseRegister(pulse.FormatRegister(x))
		if r.Length != x.Length || !slices.Equal(r.Taps, x.Taps) || e != api.OK {
			t.Errorf("%v: %v, error %d", x, r, e)
		}
	}
}
