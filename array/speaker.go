package array

import (
	"slices"

	"shoebox/api"
)

// rig is an array that is worked with.
type rig struct{ api.Array }

func (r rig) sound() api.ArraySound { return api.ArraySound{Rate: r.Rate, Speed: r.Speed} }

// check is the error of the array without its number.
func (r rig) check() api.Errno {
	_, e := CheckArray(r.Array)
	return e
}

// copied is the array with loudspeakers of its own, so that they can be changed.
func (r rig) copied() api.Array {
	a := r.Array
	a.Speakers = slices.Clone(a.Speakers)
	return a
}

// adjusted is the condition that a gain and a delay are right.
func adjusted(gain, delay int) condition {
	return func() api.Errno {
		return firstError(within(gain, 0, api.MaxArrayGain), within(delay, 0, api.MaxArrayDelay))
	}
}

// CheckArray returns the first error of an array, and the number of the loudspeaker that has it.
func CheckArray(a api.Array) (int, api.Errno) {
	r := rig{a}
	if e := firstError(audible(r.sound()), counted(len(r.Speakers), api.MaxSpeakers)); e != api.OK {
		return 0, e
	}
	for i, s := range r.Speakers {
		if e := firstError(placed(s.At), adjusted(s.Gain, s.Delay)); e != api.OK {
			return i, e
		}
	}
	return 0, api.OK
}

// Muted returns an array with the gain 0 for a loudspeaker.
func Muted(a api.Array, speaker int) (api.Array, api.Errno) {
	r := rig{a}
	isThere := 0 <= speaker && speaker < len(r.Speakers)
	if e := firstError(r.check, refuse(!isThere, api.ErrMissing)); e != api.OK {
		return api.Array{}, e
	}
	muted := r.copied()
	muted.Speakers[speaker].Gain = 0
	return muted, api.OK
}
