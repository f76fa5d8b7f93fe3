package array

import (
	"slices"

	"shoebox/api"
)

// heard is an array, and the seat at which it is heard.
type heard struct {
	rig
	seat api.Place
}

// part is a loudspeaker, and how it is heard at a seat.
type part struct {
	api.ArraySpeaker
	numbers, strength api.Range
}

// seated is the error of the seat; the array has to be right.
func (h heard) seated() api.Errno {
	return firstError(
		placed(h.seat),
		each(len(h.Speakers), func(i int) api.Errno { return h.wayFrom(h.Speakers[i]).apart() }),
	)
}

func (h heard) wayFrom(s api.ArraySpeaker) way { return way{s.At, h.seat} }

func (h heard) parts() []part {
	var l []part
	for _, s := range h.Speakers {
		w := h.wayFrom(s)
		l = append(l, part{s, w.numbers(h.sound()), w.strength()})
	}
	return l
}

// share is the part's pressure with a number of samples and a strength. At a fourth of the rate a sample is a quarter turn.
func (p part) share(number, strength int) complex128 {
	directions := [...]complex128{1, -1i, -1, 1i}
	return complex(float64(p.Gain*strength), 0) * directions[(number+p.Delay)%len(directions)]
}

// nominal is the part's pressure with its nominal number and the least end of its strength.
func (p part) nominal() complex128 { return p.share(p.numbers.Lo, p.strength.Lo) }

// ends is between what the real and the imaginary part of the part's pressure lie.
func (p part) ends() [2]api.Range {
	var re, im []int
	for number := p.numbers.Lo; number <= p.numbers.Hi; number++ {
		for _, strength := range [...]int{p.strength.Lo, p.strength.Hi} {
			share := p.share(number, strength)
			re = append(re, int(real(share)))
			im = append(im, int(imag(share)))
		}
	}
	return [2]api.Range{
		{Lo: slices.Min(re), Hi: slices.Max(re)},
		{Lo: slices.Min(im), Hi: slices.Max(im)},
	}
}

func plus(a, b api.Range) api.Range { return api.Range{Lo: a.Lo + b.Lo, Hi: a.Hi + b.Hi} }

// squared is the squares of the ends of a range that is not below 0.
func squared(r api.Range) api.Range { return api.Range{Lo: r.Lo * r.Lo, Hi: r.Hi * r.Hi} }

// sizes is the sizes of the numbers of a range.
func sizes(r api.Range) api.Range {
	return api.Range{Lo: max(r.Lo, -r.Hi, 0), Hi: max(r.Hi, -r.Lo)}
}

// pressure has no part that is -0, even if some shares have: what is added to 0 is never -0.
func (h heard) pressure() complex128 {
	var sum complex128
	for _, p := range h.parts() {
		sum += p.nominal()
	}
	return sum
}

func (h heard) ends() [2]api.Range {
	var sum [2]api.Range
	for _, p := range h.parts() {
		for i, r := range p.ends() {
			sum[i] = plus(sum[i], r)
		}
	}
	return sum
}

func (h heard) size() api.Range {
	ends := h.ends()
	square := plus(squared(sizes(ends[0])), squared(sizes(ends[1])))
	return api.Range{Lo: root(square.Lo).Lo, Hi: root(square.Hi).Hi}
}

func (h heard) energy() api.Range {
	var sum api.Range
	for _, p := range h.parts() {
		sum = plus(sum, squared(scaled(p.strength, p.Gain, 1)))
	}
	return sum
}

// told is something of an array at a seat, or their error.
func told[T any](a api.Array, seat api.Place, tell func(h heard) T) (T, api.Errno) {
	h := heard{rig{a}, seat}
	if e := firstError(h.check, h.seated); e != api.OK {
		var nothing T
		return nothing, e
	}
	return tell(h), api.OK
}

// PressureAt returns the pressure of an array at a seat.
func PressureAt(a api.Array, seat api.Place) (complex128, api.Errno) {
	return told(a, seat, heard.pressure)
}

// EndsAt returns the ends of the real and of the imaginary part of the pressure at a seat.
func EndsAt(a api.Array, seat api.Place) ([2]api.Range, api.Errno) {
	return told(a, seat, heard.ends)
}

// SizeAt returns the size of the pressure at a seat.
func SizeAt(a api.Array, seat api.Place) (api.Range, api.Errno) {
	return told(a, seat, heard.size)
}

// EnergyAt returns the energy of an array at a seat.
func EnergyAt(a api.Array, seat api.Place) (api.Range, api.Errno) {
	return told(a, seat, heard.energy)
}
