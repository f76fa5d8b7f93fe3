package figure_test

import (
	"math"
	"math/rand"
	"testing"

	"shoebox/api"
)

const (
	leastInt    = -1 << 63
	greatestInt = 1<<63 - 1
	loud        = 32767         // the greatest sample, and the greatest noise
	million     = 1000000       // the greatest time
	mostTail    = 1000000000000 // the greatest tail
	mostEnergy  = 10000000000000
	mostPart    = 1000000000
)

func nan() float32       { return float32(math.NaN()) }
func endless() float32   { return float32(math.Inf(1)) }
func minusZero() float32 { return float32(math.Copysign(0, -1)) }

func list(l ...int) []int { return l }

func response(rate int, samples ...float32) api.Response {
	return api.Response{Rate: rate, Samples: samples}
}

// five is the response of the examples.
func five() api.Response { return response(8000, 8, 4, 2, 1, 0) }

// loudest is a response with the most energy that there can be.
func loudest() api.Response { return repeated(8000, api.MaxResponse, -loud) }

func repeated(rate, count int, sample float32) api.Response {
	r := response(rate)
	for range count {
		r.Samples = append(r.Samples, sample)
	}
	return r
}

// onlyAt is a response of silence but for one sample.
func onlyAt(rate, count, at int, sample float32) api.Response {
	r := repeated(rate, count, 0)
	r.Samples[at] = sample
	return r
}

func asked(r api.Response, noise, tail int) api.FigureAsk {
	return api.FigureAsk{Response: r, Noise: noise, Tail: tail}
}

func span(least, greatest int) api.Range { return api.Range{Lo: least, Hi: greatest} }

func window(from, to int) api.FigureWindow { return api.FigureWindow{From: from, To: to} }

func frac(num, den int) api.Frac { return api.Frac{Num: num, Den: den} }

// wantSame tests a result and its error.
func wantSame[T comparable](t *testing.T, name string, got T, e api.Errno, want T, wrong api.Errno) {
	t.Helper()
	if got != want || e != wrong {
		t.Errorf("%s: %v, error %d, want %v, %d", name, got, e, want, wrong)
	}
}

// wantWrong tests an error, beside which there may be nothing.
func wantWrong[T comparable](t *testing.T, name string, got T, e, wrong api.Errno) {
	t.Helper()
	var nothing T
	wantSame(t, name, got, e, nothing, wrong)
}

// anyOf is one of some numbers.
func anyOf(r *rand.Rand, l ...int) int { return l[r.Intn(len(l))] }

func anyRate(r *rand.Rand) int {
	return anyOf(r, 8000, 8009, 44100, 48000, 191999, 192000, 8000+r.Intn(184001))
}

// anyResponse fades, or does not, or is silent here and there; it is short most often.
func anyResponse(r *rand.Rand) api.Response {
	x := response(anyRate(r))
	size, fade := float64(anyOf(r, 1, 3, 100, loud, r.Intn(loud+1))), []float64{1, 0.99, 0.9, 0.7, 0.3}[r.Intn(5)]
	for range anyOf(r, 1, 2, 3, 5, 8, 20, 60, 400, api.MaxResponse, 1+r.Intn(40)) {
		sample := math.Round(size * []float64{1, -1, 0, r.Float64(), -r.Float64()}[r.Intn(5)])
		x.Samples = append(x.Samples, float32(sample))
		size *= fade
	}
	return x
}

// anyAsk is often one without noise or tail, or with little of both.
func anyAsk(r *rand.Rand) api.FigureAsk {
	noise := anyOf(r, 0, 0, 0, 1, 2, 5, 40, r.Intn(loud+1), loud)
	tail := anyOf(r, 0, 0, 0, 1, 10, 1000, r.Intn(100000), r.Intn(mostTail+1), mostTail)
	return asked(anyResponse(r), noise, tail)
}

// anyTime is a time, often that of a sample or one microsecond beside it.
func anyTime(r *rand.Rand, x api.Response) int {
	at := r.Intn(len(x.Samples)+2) * million / x.Rate
	return max(0, min(million, anyOf(r, 0, at, at-1, at+1, 50000, 80000, million, r.Intn(million+1))))
}
