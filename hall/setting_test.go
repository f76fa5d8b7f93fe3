package hall_test

import (
	"strconv"
	"testing"

	"shoebox/api"
	"shoebox/hall"
)

// P1.2: the errors of a setting, in their order.
func TestCheckSetting(t *testing.T) {
	for _, c := range []struct {
		name           string
		heights, drawn []int
		errno          api.Errno
	}{
		{"nothing drawn", []int{2, 1}, nil, api.OK},
		{"nothing drawn, as an empty list", []int{0, 0}, []int{}, api.OK},
		{"all drawn", []int{0, 0}, []int{1, 3, 6}, api.OK},
		{"no heights", nil, nil, api.ErrShape},
		{"too few", []int{0}, nil, api.ErrShape},
		{"too many", []int{0, 0, 0}, nil, api.ErrShape},
		{"shape ahead of all", []int{9}, []int{9}, api.ErrShape},
		{"a height too great", []int{3, 0}, nil, api.ErrMissing},
		{"the second height too great", []int{0, 2}, nil, api.ErrMissing},
		{"a height below 0", []int{0, -1}, nil, api.ErrMissing},
		{"heights ahead of walls", []int{0, 2}, []int{3, 1}, api.ErrMissing},
		{"no curtain", []int{0, 0}, []int{0}, api.ErrMissing},
		{"no wall", []int{0, 0}, []int{1, 8}, api.ErrMissing},
		{"a wall below 0", []int{0, 0}, []int{-1}, api.ErrMissing},
		{"twice", []int{0, 0}, []int{1, 1}, api.ErrOrder},
		{"descending", []int{0, 0}, []int{3, 1}, api.ErrOrder},
		{"missing ahead of order", []int{0, 0}, []int{3, 0}, api.ErrMissing},
		{"the first wall decides", []int{0, 0}, []int{3, 1, 0}, api.ErrOrder},
	} {
		s := api.HallSetting{Heights: c.heights, Drawn: c.drawn}
		wantErrno(t, c.name, hall.CheckSetting(wedge(), s), c.errno)
	}
	wrong := box()
	wrong.Name = ""
	wantErrno(t, "hall first", hall.CheckSetting(wrong, api.HallSetting{}), api.ErrName)
}

// P1.2: the settings of the examples.
func TestSettingsOfBox(t *testing.T) {
	if n, e := hall.Settings(box()); n != 4 || e != api.OK {
		t.Errorf("Settings: %d, %d", n, e)
	}
	for i, want := range []string{"0 -", "0 1", "1 -", "1 1"} {
		s, e := hall.SettingAt(box(), i)
		if got := hall.FormatSetting(s); got != want || e != api.OK {
			t.Errorf("SettingAt %d: %q, %d", i, got, e)
		}
	}
	for _, n := range []int{-1, 4, 1 << 62, -1 << 63} {
		s, e := hall.SettingAt(box(), n)
		if !isEmpty(s) || e != api.ErrMissing {
			t.Errorf("SettingAt %d: %v, %d", n, s, e)
		}
	}
}

// P1.2: a hall without curtains and canopies has one setting, nothing.
func TestOneSetting(t *testing.T) {
	n, e := hall.Settings(triangle())
	s, f := hall.SettingAt(triangle(), 0)
	if n != 1 || e != api.OK || !isEmpty(s) || f != api.OK {
		t.Errorf("%d, %d, %v, %d", n, e, s, f)
	}
	_, e = hall.SettingAt(triangle(), 1)
	wantErrno(t, "SettingAt 1", e, api.ErrMissing)
}

// P1.2: more settings than MaxHallSettings are too many, of whatever number.
func TestTooManySettings(t *testing.T) {
	h := box()
	h.Canopies, h.Seats = nil, nil
	for i := range 4 {
		h.Canopies = append(h.Canopies, api.HallCanopy{
			Name: "k" + strconv.Itoa(i), Material: "w",
			From: api.HallCorner{X: 1, Y: 1}, To: api.HallCorner{X: 2, Y: 2}, Heights: []int{1, 2, 3, 4},
		})
	}
	n, e := hall.Settings(h)
	if n != 512 || e != api.OK {
		t.Errorf("256 heights and a curtain: %d, %d", n, e)
	}
	h.Walls[0].Curtain = "w"
	n, e = hall.Settings(h)
	if n != 0 || e != api.ErrLarge {
		t.Errorf("256 heights and two curtains: %d, %d", n, e)
	}
	for _, n := range []int{0, -1, 1024} {
		s, e := hall.SettingAt(h, n)
		if !isEmpty(s) || e != api.ErrLarge {
			t.Errorf("SettingAt %d: %v, %d", n, s, e)
		}
	}
	wantErrno(t, "a setting of them", hall.CheckSetting(h, api.HallSetting{Heights: []int{3, 3, 3, 3}, Drawn: []int{0, 1}}), api.OK)
}

// goesAhead is the order of settings, written down as the chapter says it.
func goesAhead(h api.Hall, a, b api.HallSetting) bool {
	for i := range a.Heights {
		if a.Heights[i] != b.Heights[i] {
			return a.Heights[i] < b.Heights[i]
		}
	}
	isIn := func(l []int, n int) bool {
		for _, x := range l {
			if x == n {
				return true
			}
		}
		return false
	}
	for i, w := range h.Walls {
		if w.Curtain != "" && isIn(a.Drawn, i) != isIn(b.Drawn, i) {
			return isIn(b.Drawn, i)
		}
	}
	return false
}

// P1.11: SettingAt with all numbers gives each right setting once; P1.12: their texts lead back to them.
func TestAllSettings(t *testing.T) {
	h := wedge()
	n, e := hall.Settings(h)
	if n != 3*2*8 || e != api.OK {
		t.Fatalf("Settings: %d, %d", n, e)
	}
	volume, _ := hall.TwiceVolume(h)
	var before api.HallSetting
	for i := range n {
		s, e := hall.SettingAt(h, i)
		wantErrno(t, "SettingAt", e, api.OK)
		wantErrno(t, "CheckSetting", hall.CheckSetting(h, s), api.OK)
		if i > 0 && !goesAhead(h, before, s) {
			t.Errorf("%v does not go ahead of %v", before, s)
		}
		before = s
		if back, e := hall.ParseSetting(hall.FormatSetting(s)); !same(back, s) || e != api.OK {
			t.Errorf("%v comes back as %v, %d", s, back, e)
		}
	}
	h.Canopies[0].Heights, h.Walls[1].Curtain = []int{2}, ""
	if other, _ := hall.TwiceVolume(h); other != volume {
		t.Errorf("the volume changes from %d to %d", volume, other)
	}
}

// P1.7: the texts of settings, whatever they are.
func TestFormatSetting(t *testing.T) {
	for _, c := range []struct {
		setting api.HallSetting
		want    string
	}{
		{api.HallSetting{}, "- -"},
		{api.HallSetting{Heights: []int{}, Drawn: []int{}}, "- -"},
		{lowDrawn(), "0 1"},
		{api.HallSetting{Heights: []int{0, 1, 12}}, "0,1,12 -"},
		{api.HallSetting{Drawn: []int{3, 1, 1}}, "- 3,1,1"},
		{api.HallSetting{Heights: []int{-1, 100}, Drawn: []int{-1 << 63}}, "-1,100 -9223372036854775808"},
	} {
		if got := hall.FormatSetting(c.setting); got != c.want {
			t.Errorf("%v: %q", c.setting, got)
		}
	}
}

// P1.7: the settings of texts, and the errors of those that are none.
func TestParseSetting(t *testing.T) {
	for _, c := range []struct {
		text  string
		want  api.HallSetting
		errno api.Errno
	}{
		{"- -", api.HallSetting{}, api.OK},
		{"0 -", low(), api.OK},
		{"0 1", lowDrawn(), api.OK},
		{"3,0,99,10 0,1,2,3,4,5,6,7,8,9,10,11", api.HallSetting{Heights: []int{3, 0, 99, 10}, Drawn: []int{0, 1, 2, 3, 4, 5, 6, 7, 8, 9, 10, 11}}, api.OK},
		{"- 98,99", api.HallSetting{Drawn: []int{98, 99}}, api.OK},
		{"0,0,0,0,0 -", api.HallSetting{}, api.ErrLarge},
		{"- 0,1,2,3,4,5,6,7,8,9,10,11,12", api.HallSetting{}, api.ErrLarge},
		{"- 1,1,1,1,1,1,1,1,1,1,1,1,1", api.HallSetting{}, api.ErrLarge},
		{"0,0,0,0,0 1,1", api.HallSetting{}, api.ErrLarge},
		{"0 1,1", api.HallSetting{}, api.ErrOrder},
		{"0 0,3,2", api.HallSetting{}, api.ErrOrder},
		{"0,0,0,0,0 x", api.HallSetting{}, api.ErrSyntax},
	} {
		if s, e := hall.ParseSetting(c.text); !same(s, c.want) || e != c.errno {
			t.Errorf("%q: %v, %d", c.text, s, e)
		}
	}
	for _, text := range []string{
		"", " ", "-", "0", "0 ", " 0", "- ", " -", "0  1", "- - ", " - -", "0 1 2", "0\t1", "0 1\n",
		"00 -", "01 -", "100 -", "-1 -", "-0 -", "+1 -", "0, -", ",0 -", "0,,1 -", ", -", "-,- -", "0,- -", "0 -,1",
		"a -", "0 1a", "0 1, 2", "0x1 -", "1/ -", "1: -", "١ -", "- 00", "- 100",
	} {
		if s, e := hall.ParseSetting(text); !isEmpty(s) || e != api.ErrSyntax {
			t.Errorf("%q: %v, %d", text, s, e)
		}
	}
}
