package hall

import (
	"strconv"
	"strings"

	"shoebox/api"
)

// visit is the room of a hall that has no error.
func visit(h api.Hall) (*room, api.Errno) {
	if _, e := CheckHall(h); e != api.OK {
		return nil, e
	}
	return &room{Hall: h}, api.OK
}

// visitIn is the room of a hall in a setting, if neither has an error.
func visitIn(h api.Hall, s api.HallSetting) (*room, api.Errno) {
	r, e := visit(h)
	if e != api.OK {
		return nil, e
	}
	if e := r.checkSetting(s); e != api.OK {
		return nil, e
	}
	r.setting = s
	return r, api.OK
}

// CheckSetting returns the first error of a hall and a setting.
func CheckSetting(h api.Hall, s api.HallSetting) api.Errno {
	_, e := visitIn(h, s)
	return e
}

func (r *room) checkSetting(s api.HallSetting) api.Errno {
	if len(s.Heights) != len(r.Canopies) {
		return api.ErrShape
	}
	for i, n := range s.Heights {
		if n < 0 || n >= len(r.Canopies[i].Heights) {
			return api.ErrMissing
		}
	}
	for i, n := range s.Drawn {
		switch {
		case n < 0 || n >= len(r.Walls) || r.Walls[n].Curtain == "":
			return api.ErrMissing
		case i > 0 && n <= s.Drawn[i-1]:
			return api.ErrOrder
		}
	}
	return api.OK
}

// curtains is the numbers of the walls that have curtains.
func (r *room) curtains() []int {
	var l []int
	for i, w := range r.Walls {
		if w.Curtain != "" {
			l = append(l, i)
		}
	}
	return l
}

func (r *room) countSettings() (int, api.Errno) {
	count := 1 << len(r.curtains())
	for _, c := range r.Canopies {
		count *= len(c.Heights)
	}
	if count > api.MaxHallSettings {
		return 0, api.ErrLarge
	}
	return count, api.OK
}

// Settings returns how many settings a hall has.
func Settings(h api.Hall) (int, api.Errno) {
	r, e := visit(h)
	if e != api.OK {
		return 0, e
	}
	return r.countSettings()
}

// SettingAt returns the setting with a number, from 0 on.
func SettingAt(h api.Hall, n int) (api.HallSetting, api.Errno) {
	r, e := visit(h)
	if e != api.OK {
		return api.HallSetting{}, e
	}
	count, e := r.countSettings()
	switch {
	case e != api.OK:
		return api.HallSetting{}, e
	case n < 0 || n >= count:
		return api.HallSetting{}, api.ErrMissing
	}
	return r.settingAt(n, count), api.OK
}

// settingAt is the setting with a number of so many: each height, and then each curtain, parts those that are left evenly.
func (r *room) settingAt(n, count int) api.HallSetting {
	var s api.HallSetting
	for _, c := range r.Canopies {
		count /= len(c.Heights)
		s.Heights = append(s.Heights, n/count)
		n %= count
	}
	for _, wall := range r.curtains() {
		count /= 2
		if n >= count {
			s.Drawn = append(s.Drawn, wall)
			n -= count
		}
	}
	return s
}

// FormatSetting returns the text of a setting, whatever it is.
func FormatSetting(s api.HallSetting) string {
	return formatNumbers(s.Heights) + " " + formatNumbers(s.Drawn)
}

func formatNumbers(l []int) string {
	if len(l) == 0 {
		return "-"
	}
	words := make([]string, len(l))
	for i, n := range l {
		words[i] = strconv.Itoa(n)
	}
	return strings.Join(words, ",")
}

// ParseSetting returns the setting with a text.
func ParseSetting(t string) (api.HallSetting, api.Errno) {
	first, second, _ := strings.Cut(t, " ")
	heights, isFirst := parseNumbers(first)
	drawn, isSecond := parseNumbers(second)
	switch {
	case !isFirst || !isSecond:
		return api.HallSetting{}, api.ErrSyntax
	case len(heights) > api.MaxHallCanopies || len(drawn) > api.MaxHallWalls:
		return api.HallSetting{}, api.ErrLarge
	}
	for i := 1; i < len(drawn); i++ {
		if drawn[i] <= drawn[i-1] {
			return api.HallSetting{}, api.ErrOrder
		}
	}
	return api.HallSetting{Heights: heights, Drawn: drawn}, api.OK
}

// parseNumbers is what formatNumbers made the text from; false if it is no such text.
func parseNumbers(t string) ([]int, bool) {
	if t == "-" {
		return nil, true
	}
	var l []int
	for _, word := range strings.Split(t, ",") {
		n, ok := parseDigits(word, 2)
		if !ok {
			return nil, false
		}
		l = append(l, n)
	}
	return l, true
}

// parseDigits is the number with so many digits at most, none of them a leading zero.
func parseDigits(t string, most int) (int, bool) {
	if t == "" || len(t) > most || len(t) > 1 && t[0] == '0' {
		return 0, false
	}
	n := 0
	for i := range len(t) {
		if !isDigit(t[i]) {
			return 0, false
		}
		n = 10*n + int(t[i]-'0')
	}
	return n, true
}
