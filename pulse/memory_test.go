package pulse_test

import (
	"slices"
	"testing"

	"shoebox/api"
	"shoebox/pulse"
)

// R4: no function changes its arguments.
func TestArgumentsStay(t *testing.T) {
	r, p, l := two(), list(3), list(1, 2, 3)
	h := numbers(complex(minusZero(), 2), 1i, 5)
	x, f := started(r, 1), field(7, 2, 3)
	takes := [][]complex64{h, h}
	pulse.CheckRegister(r)
	pulse.Bits(r, 1, 9)
	pulse.StateAt(r, 1, 9)
	pulse.Period(r, 1)
	pulse.IsMaximal(r)
	pulse.CheckMaximal(r, p)
	pulse.Signs(r, 1)
	pulse.Correlation(l, l, 1)
	pulse.Folded(h, 2)
	pulse.Folded(h, 3)
	pulse.Excited(h, r, 1)
	pulse.Unfolded(numbers(4, 4, 4), r, 1)
	pulse.UnfoldedIn(h, x, f)
	pulse.Transformed(l, f)
	pulse.Back(l, f)
	pulse.Swept(h, h)
	pulse.Divided(h, numbers(1))
	pulse.Averaged(takes)
	pulse.Ears(h, 8000)
	pulse.FormatRegister(r)
	if r.Length != 2 || !slices.Equal(r.Taps, list(1, 2)) || !slices.Equal(p, list(3)) || !slices.Equal(l, list(1, 2, 3)) {
		t.Errorf("changed: %v, %v, %v", r, p, l)
	}
	if !slices.Equal(h, numbers(2i, 1i, 5)) || !isMinusZero(real(h[0])) || len(takes) != 2 || &takes[0][0] != &h[0] {
		t.Errorf("changed: %v, %v", h, takes)
	}
}

// R4: a result shares nothing with an argument, also if it is the same list.
func TestRecordingsAreNew(t *testing.T) {
	for name, f := range map[string]func(h []complex64) ([]complex64, api.Errno){
		"Folded":   func(h []complex64) ([]complex64, api.Errno) { return pulse.Folded(h, 3) },
		"Swept":    func(h []complex64) ([]complex64, api.Errno) { return pulse.Swept(h, numbers(1)) },
		"by Swept": func(h []complex64) ([]complex64, api.Errno) { return pulse.Swept(numbers(1), h) },
		"Divided":  func(h []complex64) ([]complex64, api.Errno) { return pulse.Divided(h, numbers(1)) },
		"Averaged": func(h []complex64) ([]complex64, api.Errno) { return pulse.Averaged([][]complex64{h}) },
	} {
		h := append(make([]complex64, 0, 9), 1, 2, 3)
		l, e := f(h)
		h[0] = 77
		wantNumbers(t, name, l, e, numbers(1, 2, 3), api.OK)
		_ = append(h, 78)
		_ = append(l, 79)
		l[1] = 80
		if !slices.Equal(h[:4], numbers(77, 2, 3, 78)) {
			t.Errorf("%s: changed: %v", name, h[:4])
		}
	}
	l := list(1, 0, 0)
	m, e := pulse.Transformed(l, field(7, 2, 3))
	l[0] = 5
	wantInts(t, "Transformed", m, e, list(1, 1, 1))
	l = list(3)
	m, e = pulse.Back(l, field(7, 1, 1))
	l[0] = 5
	wantInts(t, "Back", m, e, list(3))
}

// R4: the ears, and what FirstMaximal returns, share nothing with each other, or with what comes later.
func TestResultsAreNew(t *testing.T) {
	ears, _ := pulse.Ears(numbers(1+2i, 3+4i), 8000)
	_ = append(ears[0].Samples, 77)
	_ = append(ears[1].Samples, 78)
	ears[0].Samples[1] = 79
	if !slices.Equal(ears[1].Samples, []float32{2, 4}) {
		t.Errorf("changed: %v", ears)
	}
	r, p, _ := pulse.FirstMaximal(4)
	_ = append(r.Taps, 77)
	_ = append(p, 78)
	r.Taps[0], p[0] = 79, 80
	again, q, _ := pulse.FirstMaximal(4)
	if !slices.Equal(p[1:], list(5)) || !slices.Equal(r.Taps[1:], list(4)) || !slices.Equal(again.Taps, list(1, 4)) || !slices.Equal(q, list(3, 5)) {
		t.Errorf("changed: %v, %v, %v, %v", r, p, again, q)
	}
}

// R5: -0 is 0, and no result has it.
func TestMinusZero(t *testing.T) {
	none := complex(minusZero(), minusZero())
	h := numbers(none, none, none)
	want := make([]complex64, 3)
	l, e := pulse.Folded(h, 3)
	wantNumbers(t, "folded", l, e, want, api.OK)
	l, e = pulse.Folded(h, 1)
	wantNumbers(t, "folded to one", l, e, want[:1], api.OK)
	l, e = pulse.Excited(h, two(), 1)
	wantNumbers(t, "excited", l, e, want, api.OK)
	l, e = pulse.Unfolded(h, two(), 1)
	wantNumbers(t, "unfolded", l, e, want, api.OK)
	l, e = pulse.UnfoldedIn(h, started(two(), 1), field(7, 2, 3))
	wantNumbers(t, "unfolded in another way", l, e, want, api.OK)
	l, e = pulse.Swept(h, numbers(-1))
	wantNumbers(t, "swept", l, e, want, api.OK)
	l, e = pulse.Divided(h, numbers(-1))
	wantNumbers(t, "divided", l, e, want, api.OK)
	l, e = pulse.Averaged([][]complex64{h, h})
	wantNumbers(t, "averaged", l, e, want, api.OK)
	l, e = pulse.Chirp(3, 1)
	wantNumbers(t, "chirp", l, e, numbers(1, 1i, -1i), api.OK)
}
