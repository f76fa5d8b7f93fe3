package array

import (
	"strconv"
	"strings"

	"shoebox/api"
)

// What stands between a gain and a delay and between loudspeakers, and the greatest number that has few enough digits.
const (
	blank          = " "
	semicolon      = ";"
	greatestInText = 99999
)

// parseNumber is the number with a text; false if there is none.
func parseNumber(word string) (int, bool) {
	n, err := strconv.Atoi(word)
	// some texts that Atoi accepts are not how a number is written, such as "+1" or "01"
	isNumber := err == nil && strconv.Itoa(n) == word
	return n, isNumber && -greatestInText <= n && n <= greatestInText
}

// parseGains is the gains and delays with a text; false if there are none.
func parseGains(s string) ([][2]int, bool) {
	var l [][2]int
	for _, text := range strings.Split(s, semicolon) {
		// without a blank nothing is left for the delay, which is no number
		gain, delay, _ := strings.Cut(text, blank)
		g, isGain := parseNumber(gain)
		d, isDelay := parseNumber(delay)
		if !isGain || !isDelay {
			return nil, false
		}
		l = append(l, [2]int{g, d})
	}
	return l, true
}

// allAdjusted is the condition that all gains and delays are right.
func allAdjusted(l [][2]int) condition {
	return each(len(l), func(i int) api.Errno { return adjusted(l[i][0], l[i][1])() })
}

// FormatGains returns the text of the gains of loudspeakers, whatever they are.
func FormatGains(l []api.ArraySpeaker) string {
	var texts []string
	for _, s := range l {
		texts = append(texts, strconv.Itoa(s.Gain)+blank+strconv.Itoa(s.Delay))
	}
	return strings.Join(texts, semicolon)
}

// ParseGains returns the gains and delays with a text.
func ParseGains(s string) ([][2]int, api.Errno) {
	l, ok := parseGains(s)
	e := firstError(
		refuse(!ok, api.ErrSyntax),
		refuse(len(l) > api.MaxSpeakers, api.ErrLarge),
		allAdjusted(l),
	)
	if e != api.OK {
		return nil, e
	}
	return l, api.OK
}

// WithGains returns an array with other gains and delays.
func WithGains(a api.Array, l [][2]int) (api.Array, api.Errno) {
	r := rig{a}
	e := firstError(r.check, refuse(len(l) != len(r.Speakers), api.ErrShape), allAdjusted(l))
	if e != api.OK {
		return api.Array{}, e
	}
	changed := r.copied()
	for i, one := range l {
		changed.Speakers[i].Gain, changed.Speakers[i].Delay = one[0], one[1]
	}
	return changed, api.OK
}
