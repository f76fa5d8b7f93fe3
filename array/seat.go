package array

import "shoebox/api"

// The gain of a loudspeaker that is fully open, and the greatest unit of a table.
const (
	fullGain = api.Thousand
	mostUnit = api.MaxPart * api.MaxPart
)

// aligned is the array with delays that bring the nominal numbers of all loudspeakers up to the greatest one.
func (h heard) aligned() api.Array {
	parts := h.parts()
	last := 0
	for _, p := range parts {
		last = max(last, p.numbers.Lo)
	}
	a := h.copied()
	for i, p := range parts {
		a.Speakers[i].Delay = last - p.numbers.Lo
	}
	return a
}

// row is a row of a table, and the first error of the seat and its row.
func (h heard) row(unit int) ([]int, api.Errno) {
	if e := h.seated(); e != api.OK {
		return nil, e
	}
	var row []int
	for _, p := range h.parts() {
		pressure := fullGain * p.strength.Lo
		energy := pressure * pressure / unit
		if energy > api.MaxArrayTable {
			return nil, api.ErrLarge
		}
		row = append(row, energy)
	}
	return row, api.OK
}

// Aligned returns an array with delays that bring all sound to a seat together.
func Aligned(a api.Array, seat api.Place) (api.Array, api.Errno) {
	aligned, e := told(a, seat, heard.aligned)
	if e != api.OK {
		return api.Array{}, e
	}
	for _, s := range aligned.Speakers {
		if s.Delay > api.MaxArrayDelay {
			return api.Array{}, api.ErrLarge
		}
	}
	return aligned, api.OK
}

// TableOf returns what each loudspeaker gives to each seat when it is fully open, in units.
func TableOf(a api.Array, seats []api.Place, unit int) ([][]int, api.Errno) {
	r := rig{a}
	e := firstError(
		r.check,
		counted(len(seats), api.MaxArraySeats),
		refuse(len(r.Speakers) > api.MaxArrayColumns, api.ErrLarge),
		within(unit, 1, mostUnit),
	)
	if e != api.OK {
		return nil, e
	}
	var table [][]int
	for _, seat := range seats {
		row, e := heard{r, seat}.row(unit)
		if e != api.OK {
			return nil, e
		}
		table = append(table, row)
	}
	return table, api.OK
}
