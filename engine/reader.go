package engine

import (
	"strconv"

	"shoebox/api"
)

// greatestInText is the greatest number that has few enough digits.
const greatestInText = 999999

// parseNumber is the number with a text; false if there is none.
func parseNumber(text string) (int, bool) {
	n, err := strconv.Atoi(text)
	// some texts that Atoi accepts are not how a number is written, such as "+1" or "01"
	return n, err == nil && strconv.Itoa(n) == text && isWithin(n, -greatestInText, greatestInText)
}

func isNumber(text string) bool {
	_, ok := parseNumber(text)
	return ok
}

// word is a word of a text, and where it begins.
type word struct {
	text string
	mark api.TextMark
}

// wrong is the error that stops a reader, and its place.
type wrong struct {
	mark  api.TextMark
	errno api.Errno
}

// reader reads the words of a line one after the other.
type reader struct {
	words []word
	// end is the place behind the last word.
	end api.TextMark
}

func newReader(text string, line int) *reader {
	r := &reader{}
	begin := 0
	for at := range len(text) + 1 {
		if at < len(text) && text[at] != ' ' && text[at] != '\t' {
			continue
		}
		if begin < at {
			r.words = append(r.words, word{text[begin:at], api.TextMark{Line: line, Column: begin + 1}})
			r.end = api.TextMark{Line: line, Column: at + 1}
		}
		begin = at + 1
	}
	return r
}

func (r *reader) hasMore() bool { return len(r.words) > 0 }

// take is the next word, which has to be right.
func (r *reader) take(isRight func(text string) bool, e api.Errno) word {
	if !r.hasMore() {
		panic(wrong{r.end, api.ErrMissing})
	}
	next := r.words[0]
	if !isRight(next.text) {
		panic(wrong{next.mark, e})
	}
	r.words = r.words[1:]
	return next
}

func (r *reader) name() word { return r.take(isName, api.ErrName) }

func (r *reader) number() int {
	n, _ := parseNumber(r.take(isNumber, api.ErrSyntax).text)
	return n
}

// fixed is a word that has to be there as it is.
func (r *reader) fixed(text string) word {
	return r.take(func(t string) bool { return t == text }, api.ErrSyntax)
}

// finish stops at a word that the form does not have.
func (r *reader) finish() {
	if r.hasMore() {
		panic(wrong{r.words[0].mark, api.ErrSyntax})
	}
}
