package show

import (
	"strconv"
	"strings"

	"shoebox/api"
	"shoebox/array"
	"shoebox/engine"
	"shoebox/figure"
	"shoebox/hall"
	"shoebox/loop"
)

// saying is a fact, and what its Text says; its kind tells which of the other fields have a meaning.
type saying struct {
	api.ShowFact
	person api.ShowPerson
	scene  api.ShowScene
	cue    api.ShowCue
	number int // of the cue that is fired, or of the unit
	margin int
}

// saidBy is what a fact says, or the error of the fact.
func saidBy(f api.ShowFact) (saying, api.Errno) {
	s := saying{ShowFact: f}
	e := firstError(
		ticked(f.Tick),
		refuse(!isName(f.Who), api.ErrName),
		refuse(!isKind(f.Kind), api.ErrKind),
		refuse(len(f.Text) > api.MaxShowLine, api.ErrLarge),
		func() api.Errno { return deedOf(f.Kind).read(&s) },
	)
	return s, e
}

// CheckFact returns the first error of a fact.
func CheckFact(f api.ShowFact) api.Errno {
	_, e := saidBy(f)
	return e
}

func (s *saying) readPerson() api.Errno {
	name, word, _ := strings.Cut(s.Text, blank)
	role, isRole := roleOf(word)
	if !isName(name) || !isRole {
		return api.ErrSyntax
	}
	s.person = api.ShowPerson{Name: name, Role: role}
	return api.OK
}

func (s *saying) readScene() api.Errno {
	name, rest, _ := strings.Cut(s.Text, blank)
	levels, areNumbers := parseNumbers(rest)
	if !isName(name) || !areNumbers {
		return api.ErrSyntax
	}
	s.scene = api.ShowScene{Name: name, Levels: levels}
	return leveled(levels)()
}

func (s *saying) readCue() api.Errno {
	words := strings.Split(s.Text, blank)
	if len(words) != 3 {
		return api.ErrSyntax
	}
	number, isNumber := parseNumber(words[0], textDigits)
	steps, areSteps := parseNumber(words[2], textDigits)
	if !isNumber || !isName(words[1]) || !areSteps {
		return api.ErrSyntax
	}
	s.cue = api.ShowCue{Number: number, Scene: words[1], Steps: steps}
	return firstError(numbered(number), stepped(steps))
}

// readNumber reads the Text of a fact that is a number alone.
func (s *saying) readNumber() api.Errno {
	n, isNumber := parseNumber(s.Text, textDigits)
	s.number = n
	return refuse(!isNumber, api.ErrSyntax)()
}

func (s *saying) readGo() api.Errno {
	return firstError(s.readNumber, func() api.Errno { return numbered(s.number)() })
}

func (s *saying) readRepair() api.Errno {
	return firstError(s.readNumber, func() api.Errno { return unitAt(s.number)() })
}

// unitAt is the condition that a number can be that of a unit.
func unitAt(unit int) condition { return within(unit, 0, api.MaxEngineUnits-1) }

func (s *saying) readSetting() api.Errno {
	_, e := hall.ParseSetting(s.Text)
	return e
}

func (s *saying) readGains() api.Errno {
	_, e := array.ParseGains(s.Text)
	return e
}

func (s *saying) readMargin() api.Errno {
	m, e := loop.ParseMargin(s.Text)
	s.margin = m.Margin
	return e
}

func (s *saying) readFigures() api.Errno {
	_, e := figure.ParseFigures(s.Text)
	return e
}

func (s *saying) readFault() api.Errno {
	f, e := engine.ParseFault(s.Text)
	s.number = f.Unit
	return firstError(
		refuse(e != api.OK, e),
		unitAt(f.Unit),
		within(f.Block, 0, api.MaxEngineBlocks),
	)
}

func (s *saying) readNote() api.Errno {
	return refuse(s.Text == "" || strings.Contains(s.Text, lineFeed), api.ErrSyntax)()
}

func (s *saying) readSeal() api.Errno { return refuse(s.Text != "", api.ErrSyntax)() }

// FormatFact returns the text of a fact, or "" if its kind is none.
func FormatFact(f api.ShowFact) string {
	if !isKind(f.Kind) {
		return ""
	}
	words := []string{strconv.Itoa(f.Tick), f.Who, kindWords[f.Kind]}
	if f.Text != "" {
		words = append(words, f.Text)
	}
	return strings.Join(words, blank)
}

// ParseFact returns the fact with a text.
func ParseFact(s string) (api.ShowFact, api.Errno) {
	f, isFact := parseFact(s)
	if e := firstError(refuse(!isFact, api.ErrSyntax), func() api.Errno { return CheckFact(f) }); e != api.OK {
		return api.ShowFact{}, e
	}
	return f, api.OK
}

// parseFact is the fact with a text of the right form; false if there is none. The fact may still be wrong.
func parseFact(s string) (api.ShowFact, bool) {
	words := strings.SplitN(s, blank, 4)
	if len(words) < 3 {
		return api.ShowFact{}, false
	}
	tick, isTick := parseNumber(words[0], tickDigits)
	kind, isWord := kindOf(words[2])
	f := api.ShowFact{Tick: tick, Who: words[1], Kind: kind}
	if len(words) > 3 {
		f.Text = words[3]
	}
	endsWithBlank := len(words) > 3 && f.Text == ""
	return f, isTick && f.Who != "" && isWord && !endsWithBlank
}
