package show

import (
	"strconv"
	"strings"

	"shoebox/api"
)

// firstCheck is what the check of the first line begins with.
const firstCheck = 1

// replayed is the house of a log, or beside an error the number of the fact that has it.
func replayed(l []api.ShowFact) (*house, int, api.Errno) {
	h := newHouse()
	if len(l) > api.MaxShowFacts {
		return h, 0, api.ErrLarge
	}
	i, e := firstWrong(len(l), func(i int) api.Errno { return h.log(l[i]) })
	return h, i, e
}

// Replay returns the state of a log, or beside an error the number of the fact that has it.
func Replay(l []api.ShowFact) (api.ShowState, int, api.Errno) {
	h, i, e := replayed(l)
	if e != api.OK {
		return api.ShowState{}, i, e
	}
	return h.ShowState, 0, api.OK
}

// logged is the condition that facts are a log.
func logged(l []api.ShowFact) condition {
	return func() api.Errno {
		_, _, e := replayed(l)
		return e
	}
}

// checkOf is the check of a line behind one with a check.
func checkOf(text string, before int) int {
	check := before
	for i := range len(text) {
		check = (31*check + int(text[i]) + 1) % api.ShowPrime
	}
	return check
}

// lineOf is the line of a fact, without its line feed, behind one with a check; and its own check.
func lineOf(f api.ShowFact, before int) (string, int) {
	text := FormatFact(f)
	check := checkOf(text, before)
	return text + blank + strconv.Itoa(check), check
}

// Journal returns the journal of a log.
func Journal(l []api.ShowFact) (string, api.Errno) {
	if e := logged(l)(); e != api.OK {
		return "", e
	}
	return journalOf(l), api.OK
}

func journalOf(l []api.ShowFact) string {
	var b strings.Builder
	check := firstCheck
	for _, f := range l {
		var line string
		line, check = lineOf(f, check)
		b.WriteString(line)
		b.WriteString(lineFeed)
	}
	return b.String()
}

// factOf is the fact of a line of a journal; false if the line has none.
func factOf(line string) (api.ShowFact, bool) {
	f, e := ParseFact(line[:max(strings.LastIndex(line, blank), 0)])
	return f, e == api.OK
}

// Recover returns the facts of a journal up to the first line that is not right, and how many bytes their lines have.
func Recover(t string) ([]api.ShowFact, int, api.Errno) {
	if len(t) > api.MaxText {
		return nil, 0, api.ErrLarge
	}
	var l []api.ShowFact
	h, check, rest := newHouse(), firstCheck, t
	for {
		line, behind, isWhole := strings.Cut(rest, lineFeed)
		f, isFact := factOf(line)
		right, next := lineOf(f, check)
		if !isWhole || !isFact || line != right || h.log(f) != api.OK {
			return l, len(t) - len(rest), api.OK
		}
		l, check, rest = append(l, f), next, behind
	}
}

// Query returns the numbers of the facts that are asked for.
func Query(l []api.ShowFact, q api.ShowQuery) ([]int, api.Errno) {
	e := firstError(
		logged(l),
		refuse(q.Who != "" && !isName(q.Who), api.ErrName),
		refuse(q.Kind != anyKind && !isKind(q.Kind), api.ErrKind),
		ticked(q.From),
		ticked(q.To),
		refuse(q.From > q.To, api.ErrOrder),
	)
	if e != api.OK {
		return nil, e
	}
	var found []int
	for i, f := range l {
		isAsked := (q.Who == "" || q.Who == f.Who) && (q.Kind == anyKind || q.Kind == f.Kind)
		if isAsked && isWithin(f.Tick, q.From, q.To) {
			found = append(found, i)
		}
	}
	return found, api.OK
}
