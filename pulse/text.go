package pulse

import (
	"strconv"
	"strings"

	"shoebox/api"
)

// What stands between numbers, and the greatest number that has few enough digits.
const (
	blank          = " "
	greatestInText = 999999999
)

// parseNumber is the number with a text; false if there is none.
func parseNumber(word string) (int, bool) {
	n, err := strconv.Atoi(word)
	// some texts that Atoi accepts are not how a number is written, such as "+1" or "01"
	return n, err == nil && strconv.Itoa(n) == word && isSmall(n, greatestInText)
}

// FormatRegister returns the text of a register, whatever it is.
func FormatRegister(r api.PulseRegister) string {
	words := []string{strconv.Itoa(r.Length)}
	for _, tap := range r.Taps {
		words = append(words, strconv.Itoa(tap))
	}
	return strings.Join(words, blank)
}

// ParseRegister returns the register with a text.
func ParseRegister(s string) (api.PulseRegister, api.Errno) {
	var numbers []int
	for _, word := range strings.Split(s, blank) {
		n, ok := parseNumber(word)
		if !ok {
			return api.PulseRegister{}, api.ErrSyntax
		}
		numbers = append(numbers, n)
	}
	r := api.PulseRegister{Length: numbers[0], Taps: numbers[1:]}
	if e := CheckRegister(r); e != api.OK {
		return api.PulseRegister{}, e
	}
	return r, api.OK
}
