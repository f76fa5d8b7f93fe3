package figure

import (
	"strconv"
	"strings"

	"shoebox/api"
)

// What stands between words, what stands for a figure that is not known, and the greatest number that has few enough digits.
const (
	blank          = " "
	unknown        = "-"
	greatestInText = 9999999999999
)

// reader takes a text word by word; it is wrong if a word was not what it should have been.
type reader struct {
	words   []string
	isWrong bool
}

// takes takes the next word if it is this one.
func (r *reader) takes(word string) bool {
	if len(r.words) == 0 || r.words[0] != word {
		return false
	}
	r.words = r.words[1:]
	return true
}

// number takes the next word, which has to be a number.
func (r *reader) number() int {
	if len(r.words) == 0 {
		r.isWrong = true
		return 0
	}
	word := r.words[0]
	r.words = r.words[1:]
	n, err := strconv.Atoi(word)
	// some texts that Atoi accepts are not how a number is written, such as "+1" or "01"
	if err != nil || strconv.Itoa(n) != word || within(n, -greatestInText, greatestInText) != api.OK {
		r.isWrong = true
	}
	return n
}

// figure takes both ends of a figure, if it is known.
func (r *reader) figure() (value api.Range, isKnown bool) {
	if r.takes(unknown) {
		return api.Range{}, false
	}
	least := r.number()
	return api.Range{Lo: least, Hi: r.number()}, true
}

// FormatFigures returns the text of figures.
func FormatFigures(f api.Figures) string {
	var words []string
	for i, value := range f.Values {
		if f.Known[i] {
			words = append(words, strconv.Itoa(value.Lo), strconv.Itoa(value.Hi))
		} else {
			words = append(words, unknown)
		}
	}
	return strings.Join(words, blank)
}

// ParseFigures returns the figures with a text.
func ParseFigures(s string) (api.Figures, api.Errno) {
	r := reader{words: strings.Split(s, blank)}
	var f api.Figures
	for i := range f.Values {
		f.Values[i], f.Known[i] = r.figure()
	}
	if r.isWrong || len(r.words) > 0 {
		return api.Figures{}, api.ErrSyntax
	}
	for _, value := range f.Values {
		if value.Lo > value.Hi {
			return api.Figures{}, api.ErrOrder
		}
	}
	return f, api.OK
}
