package show

import (
	"slices"
	"strconv"
	"strings"

	"shoebox/api"
)

// The words of commands, what stands for anybody and for any kind, and the number that does.
const (
	logWord     = "log"
	undoWord    = "undo"
	levelsWord  = "levels"
	findWord    = "find"
	journalWord = "journal"
	anything    = "*"
	anyKind     = -1
)

// Desk keeps a log.
type Desk struct{ facts []api.ShowFact }

// NewDesk returns a desk without facts.
func NewDesk() *Desk { return &Desk{} }

// house is the house of the facts of a desk, which are always a log.
func (d *Desk) house() *house {
	h, _, _ := replayed(d.facts)
	return h
}

// Add adds a fact.
func (d *Desk) Add(f api.ShowFact) api.Errno {
	if d == nil {
		return api.ErrNil
	}
	if e := d.house().log(f); e != api.OK {
		return e
	}
	d.facts = append(d.facts, f)
	return api.OK
}

// Undo takes the last fact away.
func (d *Desk) Undo() api.Errno {
	if d == nil {
		return api.ErrNil
	}
	if len(d.facts) == 0 {
		return api.ErrNone
	}
	if h := d.house(); h.Count == h.Sealed {
		return api.ErrSum
	}
	d.facts = d.facts[:len(d.facts)-1]
	return api.OK
}

// Facts returns all facts.
func (d *Desk) Facts() []api.ShowFact {
	if d == nil {
		return nil
	}
	return slices.Clone(d.facts)
}

// State returns the state of all facts.
func (d *Desk) State() api.ShowState {
	if d == nil {
		return api.ShowState{}
	}
	return d.house().ShowState
}

// Load puts the facts of a journal in place of all facts, and returns how many there are.
func (d *Desk) Load(t string) (int, api.Errno) {
	if d == nil {
		return 0, api.ErrNil
	}
	l, _, e := Recover(t)
	if e != api.OK {
		return 0, e
	}
	d.facts = l
	return len(l), api.OK
}

// Do carries out a command, and returns its answer.
func (d *Desk) Do(line string) (string, api.Errno) {
	if d == nil {
		return "", api.ErrNil
	}
	// a command without a blank has nothing behind it, which is no fact, no tick and no query
	word, rest, hasBlank := strings.Cut(line, blank)
	switch {
	case word == logWord:
		return d.doLog(rest)
	case word == levelsWord:
		return d.doLevels(rest)
	case word == findWord:
		return d.doFind(rest)
	case word == undoWord && !hasBlank:
		return d.doUndo()
	case word == journalWord && !hasBlank:
		return journalOf(d.facts), api.OK
	}
	return "", api.ErrSyntax
}

func (d *Desk) doLog(text string) (string, api.Errno) {
	f, e := ParseFact(text)
	if e != api.OK {
		return "", e
	}
	if e := d.Add(f); e != api.OK {
		return "", e
	}
	return strconv.Itoa(len(d.facts) - 1), api.OK
}

func (d *Desk) doUndo() (string, api.Errno) {
	if e := d.Undo(); e != api.OK {
		return "", e
	}
	return strconv.Itoa(len(d.facts)), api.OK
}

func (d *Desk) doLevels(text string) (string, api.Errno) {
	tick, isTick := parseNumber(text, tickDigits)
	if !isTick {
		return "", api.ErrSyntax
	}
	return answered(LevelsAt(d.house().Moves, tick))
}

func (d *Desk) doFind(text string) (string, api.Errno) {
	q, isQuery := parseQuery(text)
	if !isQuery {
		return "", api.ErrSyntax
	}
	return answered(Query(d.facts, q))
}

// answered is the answer with some numbers.
func answered(l []int, e api.Errno) (string, api.Errno) {
	if e != api.OK {
		return "", e
	}
	return formatNumbers(l), api.OK
}

// parseQuery is the query with a text of the right form; false if there is none. The query may still be wrong.
func parseQuery(text string) (api.ShowQuery, bool) {
	words := strings.Split(text, blank)
	if len(words) != 4 || words[0] == "" {
		return api.ShowQuery{}, false
	}
	q := api.ShowQuery{Kind: anyKind}
	if words[0] != anything {
		q.Who = words[0]
	}
	isWord, isFrom, isTo := true, false, false
	if words[1] != anything {
		q.Kind, isWord = kindOf(words[1])
	}
	q.From, isFrom = parseNumber(words[2], tickDigits)
	q.To, isTo = parseNumber(words[3], tickDigits)
	return q, isWord && isFrom && isTo
}
