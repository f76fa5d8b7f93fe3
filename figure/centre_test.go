package figure_test

import (
	"math/rand"
	"testing"

	"shoebox/api"
	"shoebox/figure"
)

// P5.6: the centre of the example, of noise, and of the loudest responses.
func TestCentre(t *testing.T) {
	late := onlyAt(8000, 1024, 1023, loud)
	for _, c := range []struct {
		name string
		a    api.FigureAsk
		want api.Range
		err  api.Errno
	}{
		{"the example", asked(five(), 0, 0), span(39, 40), api.OK},
		{"noise", asked(five(), 1, 0), span(11, 125), api.OK},
		{"much noise", asked(five(), 5, 0), span(0, 500), api.OK},
		{"one sample", asked(response(8000, 5), 0, 0), span(0, 0), api.OK},
		{"one sample with noise", asked(response(8000, 5), 4, 0), span(0, 0), api.OK},
		{"both halves", asked(response(8000, 1, 1), 0, 0), span(62, 63), api.OK},
		{"just whole", asked(response(8000, 1, 0, 1), 0, 0), span(125, 125), api.OK},
		{"another rate", asked(response(44100, 0, 1), 0, 0), span(22, 23), api.OK},
		{"another rate with noise", asked(response(44100, 0, 2), 1, 0), span(2, 23), api.OK},
		{"the last one of many", asked(late, 0, 0), span(127875, 127875), api.OK},
		{"the last one of many with noise", asked(late, 1, 0), span(127859, 127875), api.OK},
		{"the last one of many, fast", asked(onlyAt(192000, 1024, 1023, -1), 0, 0), span(5328, 5329), api.OK},
		{"the least part of a microsecond", asked(onlyAt(8001, 100, 64, 1), 0, 0), span(7999, 8000), api.OK},
		{"loudest", asked(loudest(), 0, 0), span(63937, 63938), api.OK},
		{"loudest with noise", asked(loudest(), loud-1, 0), span(0, 127875), api.OK},
		{"a tail", asked(five(), 0, 1), span(0, 0), api.ErrOpen},
		{"silence with a tail", asked(response(8000, 0), 0, mostTail), span(0, 0), api.ErrOpen},
		{"silence", asked(response(8000, 0), 0, 0), span(0, 0), api.ErrZero},
		{"what may be silence", asked(five(), 8, 0), span(0, 0), api.ErrZero},
		{"loudest, what may be silence", asked(loudest(), loud, 0), span(0, 0), api.ErrZero},
	} {
		r, e := figure.Centre(c.a)
		wantSame(t, c.name, r, e, c.want, c.err)
	}
}

// P5.6: centres as they follow from the definition.
func TestCentreSlowly(t *testing.T) {
	r := rand.New(rand.NewSource(13))
	known := 0
	for i := range 400 {
		a := anyAsk(r)
		if i%8 == 0 { // the sums of all noise, by next to nothing
			a = asked(repeated(anyRate(r), api.MaxResponse, float32(r.Intn(loud))), loud-r.Intn(3), 0)
			a.Response.Samples[r.Intn(api.MaxResponse)] = loud
		}
		got, e := figure.Centre(a)
		want, wrong := slowCentre(a)
		wantSame(t, "Centre", got, e, want, wrong)
		if e == api.OK {
			known++
		}
	}
	if known < 100 {
		t.Errorf("only %d are known", known)
	}
}
