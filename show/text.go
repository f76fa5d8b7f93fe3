package show

import (
	"strconv"
	"strings"

	"shoebox/api"
)

// What stands between words, between numbers and behind lines.
const (
	blank    = " "
	comma    = ","
	lineFeed = "\n"
)

// How many digits the numbers of a Text have at most, and those of ticks.
const (
	textDigits = 6
	tickDigits = 9
)

// kindWords is the words of the kinds of facts.
var kindWords = [...]string{
	api.FactPerson:  "person",
	api.FactScene:   "scene",
	api.FactCue:     "cue",
	api.FactGo:      "go",
	api.FactSetting: "setting",
	api.FactGains:   "gains",
	api.FactMargin:  "margin",
	api.FactFigures: "figures",
	api.FactFault:   "fault",
	api.FactRepair:  "repair",
	api.FactNote:    "note",
	api.FactSeal:    "seal",
}

// roleWords is the words of the roles of persons.
var roleWords = [...]string{
	api.RoleDirector: "director",
	api.RoleEngineer: "engineer",
	api.RoleOperator: "operator",
	api.RoleGuest:    "guest",
}

func isKind(kind int) bool { return isWithin(kind, 0, len(kindWords)-1) }

// kindOf is the kind with a word; false if there is none.
func kindOf(word string) (int, bool) {
	for kind, w := range kindWords {
		if w == word {
			return kind, true
		}
	}
	return 0, false
}

// roleOf is the role with a word; false if there is none.
func roleOf(word string) (int, bool) {
	for role, w := range roleWords {
		if w == word {
			return role, true
		}
	}
	return 0, false
}

// isName tells whether a text is 1 to MaxName letters, digits and "-", beginning with a letter.
func isName(t string) bool {
	for i := range len(t) {
		c := t[i]
		if !isLetter(c) && (i == 0 || !isDigit(c) && c != '-') {
			return false
		}
	}
	return isWithin(len(t), 1, api.MaxName)
}

func isLetter(c byte) bool { return 'A' <= c && c <= 'Z' || 'a' <= c && c <= 'z' }

func isDigit(c byte) bool { return '0' <= c && c <= '9' }

// parseNumber is the number from 0 on with a text of so many digits at most; false if there is none.
func parseNumber(text string, digits int) (int, bool) {
	n, err := strconv.Atoi(text)
	// some texts that Atoi accepts are not how a number is written, such as "+1" or "01"
	isNumber := err == nil && n >= 0 && len(text) <= digits && strconv.Itoa(n) == text
	return n, isNumber
}

// parseNumbers is numbers with single commas between; false if there are none.
func parseNumbers(text string) ([]int, bool) {
	var l []int
	for _, word := range strings.Split(text, comma) {
		n, isNumber := parseNumber(word, textDigits)
		if !isNumber {
			return nil, false
		}
		l = append(l, n)
	}
	return l, true
}

// formatNumbers is numbers with single commas between, or "-" if there are none.
func formatNumbers(l []int) string {
	if len(l) == 0 {
		return "-"
	}
	return strings.Join(told(l, strconv.Itoa), comma)
}
