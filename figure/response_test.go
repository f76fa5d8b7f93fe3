package figure_test

import (
	"math"
	"math/rand"
	"testing"

	"shoebox/api"
	"shoebox/figure"
)

// wrongResponses is responses with their first error, and the number of the sample that has it.
func wrongResponses() []struct {
	name string
	r    api.Response
	at   int
	want api.Errno
} {
	return []struct {
		name string
		r    api.Response
		at   int
		want api.Errno
	}{
		{"nothing at all", api.Response{}, 0, api.ErrRange},
		{"too slow", response(7999, 1), 0, api.ErrRange},
		{"too fast", response(192001, 1), 0, api.ErrRange},
		{"a negative rate", response(-8000, 1), 0, api.ErrRange},
		{"the least rate of all", response(leastInt, 1), 0, api.ErrRange},
		{"the greatest rate of all", response(greatestInt, 1), 0, api.ErrRange},
		{"the rate ahead of the count", repeated(7999, 1025, 1), 0, api.ErrRange},
		{"the rate ahead of samples", response(7999, 1, nan()), 0, api.ErrRange},
		{"no samples", response(8000), 0, api.ErrShape},
		{"no samples, empty", api.Response{Rate: 8000, Samples: []float32{}}, 0, api.ErrShape},
		{"too many samples", repeated(8000, 1025, 1), 0, api.ErrLarge},
		{"the count ahead of samples", repeated(8000, 1025, nan()), 0, api.ErrLarge},
		{"no number", response(8000, nan()), 0, api.ErrWhole},
		{"no number, behind others", response(8000, 1, 2, nan()), 2, api.ErrWhole},
		{"endless", response(8000, 1, endless()), 1, api.ErrWhole},
		{"endless below", response(8000, 1, -endless()), 1, api.ErrWhole},
		{"a half", response(8000, 0, 0, 0, 0.5), 3, api.ErrWhole},
		{"a half below", response(8000, 0, -1.5), 1, api.ErrWhole},
		{"the least float", response(8000, 0, math.SmallestNonzeroFloat32), 1, api.ErrWhole},
		{"not whole and too great", response(8000, 1, 32767.5), 1, api.ErrWhole},
		{"too great", response(8000, 1, 32768), 1, api.ErrRange},
		{"too great below", response(8000, 1, 2, -32768), 2, api.ErrRange},
		{"the greatest float", response(8000, math.MaxFloat32), 0, api.ErrRange},
		{"the greatest float below", response(8000, -math.MaxFloat32), 0, api.ErrRange},
		{"2^63", response(8000, 1, 9223372036854775808), 1, api.ErrRange},
		{"too great ahead of a half", response(8000, 40000, 0.5), 0, api.ErrRange},
		{"a half ahead of too great", response(8000, 0.5, 40000), 0, api.ErrWhole},
		{"the last one of all", onlyAt(8000, 1024, 1023, 0.5), 1023, api.ErrWhole},
	}
}

// rightResponses is some responses without an error.
func rightResponses() []api.Response {
	return []api.Response{
		five(), loudest(), response(8000, 0), response(192000, 1), response(8000, loud, -loud),
		response(44100, minusZero()), repeated(192000, 1024, 0),
	}
}

// wrongAsks is asks whose response is right.
func wrongAsks() []struct {
	name string
	a    api.FigureAsk
} {
	return []struct {
		name string
		a    api.FigureAsk
	}{
		{"negative noise", asked(five(), -1, 0)},
		{"too much noise", asked(five(), 32768, 0)},
		{"the least noise of all", asked(five(), leastInt, 0)},
		{"the greatest noise of all", asked(five(), greatestInt, 0)},
		{"a negative tail", asked(five(), 0, -1)},
		{"too much of a tail", asked(five(), 0, mostTail+1)},
		{"the least tail of all", asked(five(), 0, leastInt)},
		{"the greatest tail of all", asked(five(), 0, greatestInt)},
		{"noise and tail", asked(five(), 32768, -1)},
	}
}

// P5.1: the errors of responses, with the number of the sample.
func TestCheckResponse(t *testing.T) {
	for _, c := range wrongResponses() {
		at, e := figure.CheckResponse(c.r)
		wantSame(t, c.name, at, e, c.at, c.want)
	}
	for _, r := range rightResponses() {
		at, e := figure.CheckResponse(r)
		wantSame(t, "a right one", at, e, 0, api.OK)
	}
}

// P5.1: the errors of asks: those of the response with its number first.
func TestCheckAsk(t *testing.T) {
	for _, c := range wrongResponses() {
		for _, noise := range list(0, -1) {
			at, e := figure.CheckAsk(asked(c.r, noise, 0))
			wantSame(t, c.name, at, e, c.at, c.want)
			at, e = figure.CheckAsk(asked(c.r, 0, noise))
			wantSame(t, c.name, at, e, c.at, c.want)
		}
	}
	for _, c := range wrongAsks() {
		at, e := figure.CheckAsk(c.a)
		wantSame(t, c.name, at, e, 0, api.ErrRange)
	}
	for _, r := range rightResponses() {
		for _, noise := range list(0, 1, loud) {
			for _, tail := range list(0, 1, mostTail) {
				at, e := figure.CheckAsk(asked(r, noise, tail))
				wantSame(t, "a right one", at, e, 0, api.OK)
			}
		}
	}
}

// P5.1: all whole numbers around the limits, and what is not whole.
func TestAllSamples(t *testing.T) {
	for n := -40000; n <= 40000; n++ {
		want := api.OK
		if n < -loud || n > loud {
			want = api.ErrRange
		}
		_, e := figure.CheckResponse(response(8000, float32(n)))
		_, half := figure.CheckResponse(response(8000, float32(n)+0.25))
		if e != want || half != api.ErrWhole {
			t.Fatalf("%d: error %d and %d, want %d and %d", n, e, half, want, api.ErrWhole)
		}
	}
}

// P5.1: the first number whose sample is not ahead of a time.
func TestSampleAt(t *testing.T) {
	for _, c := range []struct {
		rate, time, want int
		err              api.Errno
	}{
		{8000, 0, 0, api.OK},
		{8000, 1, 1, api.OK},
		{8000, 124, 1, api.OK},
		{8000, 125, 1, api.OK},
		{8000, 126, 2, api.OK},
		{8000, 80000, 640, api.OK},
		{44100, 80000, 3528, api.OK},
		{44100, 22, 1, api.OK},
		{44100, 23, 2, api.OK},
		{192000, 0, 0, api.OK},
		{192000, 5, 1, api.OK},
		{192000, 6, 2, api.OK},
		{192000, million, 192000, api.OK},
		{8000, million, 8000, api.OK},
		{7999, 0, 0, api.ErrRange},
		{192001, 0, 0, api.ErrRange},
		{0, 0, 0, api.ErrRange},
		{-8000, 125, 0, api.ErrRange},
		{leastInt, 125, 0, api.ErrRange},
		{greatestInt, 125, 0, api.ErrRange},
		{8000, -1, 0, api.ErrRange},
		{8000, million + 1, 0, api.ErrRange},
		{8000, leastInt, 0, api.ErrRange},
		{8000, greatestInt, 0, api.ErrRange},
	} {
		n, e := figure.SampleAt(c.rate, c.time)
		wantSame(t, "SampleAt", n, e, c.want, c.err)
	}
}

// P5.1: as it follows from the definition.
func TestSampleAtSlowly(t *testing.T) {
	r := rand.New(rand.NewSource(1))
	for range 2000 {
		rate, time := anyRate(r), r.Intn(million+1)
		n, e := figure.SampleAt(rate, time)
		wantSame(t, "SampleAt", n, e, slowSampleAt(rate, time), api.OK)
	}
}
