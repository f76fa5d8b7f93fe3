package filter

import (
	"strconv"
	"strings"

	"shoebox/api"
)

// What stands between numbers and between sections, and the greatest number that has few enough digits.
const (
	blank          = " "
	semicolon      = ";"
	greatestInText = 999999
)

// parseNumber is the number with a text; false if there is none.
func parseNumber(word string) (int, bool) {
	n, err := strconv.Atoi(word)
	// some texts that Atoi accepts are not how a number is written, such as "+1" or "01"
	return n, err == nil && strconv.Itoa(n) == word && isSmall(n, greatestInText)
}

// parseSection is the section with a text; false if there is none.
func parseSection(text string) (api.FilterSection, bool) {
	var c coefficients
	words := strings.Split(text, blank)
	if len(words) != len(c) {
		return api.FilterSection{}, false
	}
	for i, word := range words {
		n, ok := parseNumber(word)
		if !ok {
			return api.FilterSection{}, false
		}
		c[i] = n
	}
	return c.section(), true
}

func formatSection(s api.FilterSection) string {
	var words []string
	for _, n := range coefficientsOf(s) {
		words = append(words, strconv.Itoa(n))
	}
	return strings.Join(words, blank)
}

// FormatCascade returns the text of a cascade, whatever it is.
func FormatCascade(c []api.FilterSection) string {
	var texts []string
	for _, s := range c {
		texts = append(texts, formatSection(s))
	}
	return strings.Join(texts, semicolon)
}

// ParseCascade returns the cascade with a text.
func ParseCascade(s string) ([]api.FilterSection, api.Errno) {
	if s == "" {
		return nil, api.OK
	}
	var c []api.FilterSection
	for _, text := range strings.Split(s, semicolon) {
		section, ok := parseSection(text)
		if !ok {
			return nil, api.ErrSyntax
		}
		c = append(c, section)
	}
	if e := cascadeError(c); e != api.OK {
		return nil, e
	}
	return c, api.OK
}
