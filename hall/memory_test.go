package hall_test

import (
	"reflect"
	"testing"

	"shoebox/api"
	"shoebox/hall"
)

// R4: no function changes its arguments, and appending to a result changes no other one and no argument.
func TestArgumentsStay(t *testing.T) {
	h, s := wedge(), api.HallSetting{Heights: []int{2, 1}, Drawn: []int{1, 6}}
	hall.CheckHall(h)
	for _, call := range calls() {
		call(h, s)
	}
	if !reflect.DeepEqual(h, wedge()) || !reflect.DeepEqual(s, api.HallSetting{Heights: []int{2, 1}, Drawn: []int{1, 6}}) {
		t.Errorf("changed: %v, %v", h, s)
	}
}

func TestResultsAreNew(t *testing.T) {
	h := wedge()
	names, _ := hall.Surfaces(h)
	for i := range names {
		names[i] = "x"
	}
	again, _ := hall.Surfaces(h)
	if h.Walls[0].Name != "w0" || again[0] != "w0" || again[8] != "floor" {
		t.Errorf("names: %v, %v", h.Walls[0], again)
	}
	for n := range 48 {
		s, _ := hall.SettingAt(h, n)
		want := hall.FormatSetting(s)
		_ = append(s.Heights, 77, 77)
		if got := hall.FormatSetting(s); got != want {
			t.Errorf("%q became %q", want, got)
		}
	}
	text, _ := hall.Print(h)
	a, _, _ := hall.Parse(text)
	b, _, _ := hall.Parse(text)
	_ = append(a.Canopies[0].Heights, 77)
	_ = append(a.Corners[:1], api.HallCorner{X: 77})
	a.Canopies[1].Heights[0], a.Walls[0].Name, a.Seats[0].Name = 77, "x", "x"
	if !reflect.DeepEqual(b, h) || a.Canopies[0].Heights[2] != 7 {
		t.Errorf("the second hall became %v", b)
	}
}
