package loop

import (
	"strconv"
	"strings"

	"shoebox/api"
)

// What stands between a name and a margin, and the greatest number that has few enough digits.
const (
	blank          = " "
	greatestInText = 99999
)

// isName tells whether a text is 1 to MaxName letters, digits and "-", beginning with a letter.
func isName(t string) bool {
	if t == "" || len(t) > api.MaxName || !isLetter(t[0]) {
		return false
	}
	for i := range len(t) {
		if c := t[i]; !isLetter(c) && !isDigit(c) && c != '-' {
			return false
		}
	}
	return true
}

func isLetter(c byte) bool { return 'A' <= c && c <= 'Z' || 'a' <= c && c <= 'z' }

func isDigit(c byte) bool { return '0' <= c && c <= '9' }

// parseNumber is the number with a text; false if there is none.
func parseNumber(word string) (int, bool) {
	n, err := strconv.Atoi(word)
	// some texts that Atoi accepts are not how a number is written, such as "+1" or "01"
	return n, err == nil && strconv.Itoa(n) == word && isSmall(n, greatestInText)
}

// FormatMargin returns the text of a margin, whatever it is.
func FormatMargin(m api.LoopMargin) string { return m.Name + blank + strconv.Itoa(m.Margin) }

// ParseMargin returns the margin with a text.
func ParseMargin(s string) (api.LoopMargin, api.Errno) {
	// with a second blank, or without one, the rest is no number
	name, rest, _ := strings.Cut(s, blank)
	n, isNumber := parseNumber(rest)
	e := firstError(
		refuse(!isNumber, api.ErrSyntax),
		refuse(!isName(name), api.ErrName),
		within(n, 0, api.MaxLoopMargin),
		refuse(n%api.LoopMarginStep != 0, api.ErrRange),
	)
	if e != api.OK {
		return api.LoopMargin{}, e
	}
	return api.LoopMargin{Name: name, Margin: n}, api.OK
}
