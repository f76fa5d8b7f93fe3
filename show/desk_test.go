package show_test

import (
	"math/rand"
	"strconv"
	"strings"
	"testing"

	"shoebox/api"
	"shoebox/show"
)

// said is a command, its answer and its error.
type said struct {
	line, answer string
	errno        api.Errno
}

// wantSaid tests commands one after the other.
func wantSaid(t *testing.T, d *show.Desk, l ...said) {
	t.Helper()
	for _, c := range l {
		answer, e := d.Do(c.line)
		wantSame(t, "Do "+c.line, answer, e, c.answer, c.errno)
	}
}

// wantFacts tests what a desk keeps.
func wantFacts(t *testing.T, d *show.Desk, want []api.ShowFact) {
	t.Helper()
	wantSame(t, "Facts", d.Facts(), api.OK, want, api.OK)
	s, _, e := show.Replay(want)
	wantSame(t, "State", d.State(), api.OK, s, e)
}

// deskOf is a desk with some facts.
func deskOf(t *testing.T, l []api.ShowFact) *show.Desk {
	t.Helper()
	d := show.NewDesk()
	for _, f := range l {
		wantErrno(t, "Add", d.Add(f), api.OK)
	}
	return d
}

// P10.7: facts are added and taken away; nothing has changed beside an error.
func TestDesk(t *testing.T) {
	d := show.NewDesk()
	wantFacts(t, d, nil)
	wantErrno(t, "Undo of nothing", d.Undo(), api.ErrNone)
	for i, f := range evening() {
		wantErrno(t, "a note of nobody", d.Add(fact(9, "eve", api.FactNote, "x")), choose(i == 0, api.ErrState, api.ErrMissing))
		wantErrno(t, "Add", d.Add(f), api.OK)
		wantFacts(t, d, evening()[:i+1])
	}
	for i := 4; i >= 0; i-- {
		wantErrno(t, "Undo", d.Undo(), api.OK)
		wantFacts(t, d, evening()[:i])
	}
	wantErrno(t, "Undo of nothing", d.Undo(), api.ErrNone)
	wantErrno(t, "Add behind all", d.Add(founded()), api.OK)
	wantFacts(t, d, facts(founded()))
	full := deskOf(t, append(facts(founded()), notes(1, 199)...))
	wantErrno(t, "a fact more", full.Add(fact(1, "ann", api.FactNote, "x")), api.ErrFull)
	wantErrno(t, "Undo", full.Undo(), api.OK)
	wantErrno(t, "the last fact", full.Add(fact(1, "ann", api.FactSeal, "")), api.OK)
	wantErrno(t, "Undo of a seal", full.Undo(), api.ErrSum)
}

// P10.7, P10.12: nothing that is sealed is undone.
func TestSeals(t *testing.T) {
	d := deskOf(t, evening())
	seal, note := fact(5, "ann", api.FactSeal, ""), fact(6, "ann", api.FactNote, "x")
	wantErrno(t, "a seal", d.Add(seal), api.OK)
	wantErrno(t, "Undo of a seal", d.Undo(), api.ErrSum)
	wantFacts(t, d, append(evening(), seal))
	wantErrno(t, "a note", d.Add(note), api.OK)
	wantErrno(t, "a note", d.Add(note), api.OK)
	wantErrno(t, "Undo behind a seal", d.Undo(), api.OK)
	wantFacts(t, d, append(evening(), seal, note))
	wantErrno(t, "Undo behind a seal", d.Undo(), api.OK)
	wantErrno(t, "Undo of a seal", d.Undo(), api.ErrSum)
	wantFacts(t, d, append(evening(), seal))
}

// P10.7: a journal that is loaded, also a torn one, and one that is too long.
func TestLoad(t *testing.T) {
	text := slowJournal(evening())
	d := deskOf(t, facts(founded(), fact(7, "ann", api.FactSeal, "")))
	n, e := d.Load(text)
	wantSame(t, "Load", n, e, 5, api.OK)
	wantFacts(t, d, evening())
	n, e = d.Load(strings.Repeat("x", mostText+1))
	wantWrong(t, "Load of too long a text", n, e, api.ErrLarge)
	wantFacts(t, d, evening())
	n, e = d.Load(text[:len(text)-1])
	wantSame(t, "Load of a torn text", n, e, 4, api.OK)
	wantFacts(t, d, evening()[:4])
	wantErrno(t, "Add behind Load", d.Add(evening()[4]), api.OK)
	wantFacts(t, d, evening())
	for _, text := range []string{"x", ""} {
		wantErrno(t, "a fact more", d.Add(fact(9, "ann", api.FactPerson, "ann director")), choose(text == "x", api.ErrExists, api.OK))
		n, e = d.Load(text)
		wantSame(t, "Load of nothing", n, e, 0, api.OK)
		wantFacts(t, d, nil)
	}
}

// P10.7: the example, and each command.
func TestDo(t *testing.T) {
	wantSaid(t, show.NewDesk(),
		said{"log 0 ann person ann director", "0", api.OK},
		said{"find * person 0 9", "0", api.OK},
		said{"levels 5", "-", api.OK},
		said{"undo", "0", api.OK},
		said{"undo", "", api.ErrNone},
	)
	d := show.NewDesk()
	wantSaid(t, d,
		said{"journal", "", api.OK},
		said{"find * * 0 100000000", "-", api.OK},
		said{"levels 200000000", "-", api.OK},
	)
	for i, f := range evening() {
		wantSaid(t, d, said{"log " + show.FormatFact(f), strconv.Itoa(i), api.OK})
	}
	wantFacts(t, d, evening())
	wantSaid(t, d,
		said{"log 5 ann scene b 7", "5", api.OK},
		said{"log 5 ann person bob guest", "6", api.OK},
		said{"log 6 bob note  two  blanks ", "7", api.OK},
		said{"levels 3", "0", api.OK},
		said{"levels 4", "0", api.OK},
		said{"levels 5", "25", api.OK},
		said{"levels 0", "0", api.OK},
		said{"levels 8", "100", api.OK},
		said{"find * * 0 9", "0,1,2,3,4,5,6,7", api.OK},
		said{"find ann * 0 9", "0,1,2,3,4,5,6", api.OK},
		said{"find bob * 0 9", "7", api.OK},
		said{"find bob note 0 5", "-", api.OK},
		said{"find * scene 0 9", "1,5", api.OK},
		said{"find ann person 5 5", "6", api.OK},
		said{"find eve * 0 9", "-", api.OK},
		said{"undo", "7", api.OK},
		said{"undo", "6", api.OK},
		said{"undo", "5", api.OK},
		said{"journal", slowJournal(evening()), api.OK},
		said{"log 9 ann seal", "5", api.OK},
		said{"undo", "", api.ErrSum},
		said{"journal", slowJournal(append(evening(), fact(9, "ann", api.FactSeal, ""))), api.OK},
	)
	two := deskOf(t, facts(founded(), fact(0, "ann", api.FactScene, "a 10,20,30"), fact(0, "ann", api.FactCue, "1 a 10"), fact(0, "ann", api.FactMargin, "x 1000"), fact(0, "ann", api.FactGo, "1")))
	wantSaid(t, two, said{"levels 3", "3,6,9", api.OK}, said{"levels 100", "10,20,30", api.OK})
}

// P10.7: lines that are no commands, and commands with an error; nothing has changed.
func TestDoErrors(t *testing.T) {
	d := deskOf(t, evening())
	for _, line := range []string{
		"", " ", "nonsense", "log", "log ", " log 5 ann seal", "log  5 ann seal", "Log 5 ann seal", "log 5 ann seal ", "log 5 ann", "log 5 ann nothing", "log\t5 ann seal",
		"log x ann seal", "log 1000000000 ann seal", "log -5 ann seal", "log 5 ann note", "log 5 ann note a\nb", "5 ann seal", "logs 5 ann seal",
		"undo ", " undo", "undo 1", "undo\n", "Undo", "undo undo", "journal ", " journal", "journal 1", "journal\n", "journals",
		"levels", "levels ", "levels x", "levels -1", "levels 05", "levels 00", "levels +5", "levels 5 ", "levels  5", "levels 5 6", "levels 1000000000", "level 5", "levels 5\n", "levels -", "levels *",
		"find", "find ", "find *", "find * *", "find * * 0", "find * * 0 ", "find * * 0 9 ", "find * * 0 9 9", "find  * 0 9", "find *  0 9", "find * *  9", "find  * * 0 9",
		"find * * x 9", "find * * 0 x", "find * * -1 9", "find * * 0 -1", "find * * 00 9", "find * * 0 09", "find * * * *", "find * nothing 0 9", "find * 0 0 9", "find * Note 0 9",
		"find * * 0 1000000000", "find * * 1000000000 0", "find 1 nothing 0 9", "find ann  0 9", "find * -1 0 9", "find * * 0 9\n", "Find * * 0 9",
	} {
		wantSaid(t, d, said{line, "", api.ErrSyntax})
	}
	wantSaid(t, d,
		said{"log 100000001 ann seal", "", api.ErrRange},
		said{"log 5 1 seal", "", api.ErrName},
		said{"log 5 ann note " + strings.Repeat("x", 401), "", api.ErrLarge},
		said{"log 3 ann seal", "", api.ErrOrder},
		said{"log 5 eve seal", "", api.ErrMissing},
		said{"log 5 ann go 2", "", api.ErrMissing},
		said{"log 5 ann person ann guest", "", api.ErrExists},
		said{"levels 200000001", "", api.ErrRange},
		said{"levels 999999999", "", api.ErrRange},
		said{"find 1 * 0 9", "", api.ErrName},
		said{"find ** * 0 9", "", api.ErrName},
		said{"find * * 0 100000001", "", api.ErrRange},
		said{"find * * 999999999 0", "", api.ErrRange},
		said{"find * * 5 4", "", api.ErrOrder},
	)
	wantFacts(t, d, evening())
}

// P10.7: a nil desk.
func TestNoDesk(t *testing.T) {
	var d *show.Desk
	wantErrno(t, "Add", d.Add(founded()), api.ErrNil)
	wantErrno(t, "Add of a wrong fact", d.Add(fact(-1, "", -1, "")), api.ErrNil)
	wantErrno(t, "Undo", d.Undo(), api.ErrNil)
	wantSame(t, "Facts", d.Facts(), api.OK, nil, api.OK)
	wantSame(t, "State", d.State(), api.OK, api.ShowState{}, api.OK)
	for _, text := range []string{"", slowJournal(evening()), strings.Repeat("x", mostText+1)} {
		n, e := d.Load(text)
		wantWrong(t, "Load", n, e, api.ErrNil)
	}
	for _, line := range []string{"", "journal", "undo", "nonsense", "log 0 ann person ann director", "levels 1", "find * * 0 9"} {
		wantSaid(t, d, said{line, "", api.ErrNil})
	}
}

// P10.7: desks are the logs of what was added and not undone, and do not know of each other.
func TestDesksSlowly(t *testing.T) {
	r := rand.New(rand.NewSource(8))
	for range 40 {
		d, other := show.NewDesk(), deskOf(t, evening())
		var l []api.ShowFact
		sealed := 0
		for range 60 {
			tick := 0
			if len(l) > 0 {
				tick = l[len(l)-1].Tick
			}
			f := anyFact(r, tick)
			if len(l) == 0 && r.Intn(2) == 0 {
				f = founded()
			}
			switch wrong := slowError(l, f); {
			case r.Intn(4) == 0 && len(l) == 0:
				wantErrno(t, "Undo", d.Undo(), api.ErrNone)
			case r.Intn(4) == 0 && len(l) == sealed:
				wantSaid(t, d, said{"undo", "", choose(len(l) == 0, api.ErrNone, api.ErrSum)})
			case r.Intn(4) == 0 && len(l) > sealed:
				l = l[:len(l)-1]
				wantSaid(t, d, said{"undo", strconv.Itoa(len(l)), api.OK})
			case wrong != api.OK:
				wantSaid(t, d, said{"log " + show.FormatFact(f), "", wrong})
			default:
				wantSaid(t, d, said{"log " + show.FormatFact(f), strconv.Itoa(len(l)), api.OK})
				l = append(l[:len(l):len(l)], f)
			}
			sealed = latestOf(l, api.FactSeal) + 1
			wantFacts(t, d, l)
		}
		wantFacts(t, other, evening())
	}
}
