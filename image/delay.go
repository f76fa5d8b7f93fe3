package image

import (
	"sort"

	"shoebox/api"
)

// The units of lengths and times.
const (
	lengthParts = 10000   // parts of a centimetre
	timeParts   = 1000000 // microseconds of a second
)

// audible is the condition that a speed is one of sound.
func audible(speed int) condition { return within(speed, api.LeastSpeed, api.MaxSpeed) }

// listed is the condition that a list is one of paths.
func listed(l []api.ImagePath) condition {
	return func() api.Errno {
		if len(l) > api.MaxImagePaths {
			return api.ErrLarge
		}
		for i, p := range l {
			isLess := i > 0 && p.Square < l[i-1].Square
			if e := firstError(whole(p), refuse(isLess, api.ErrOrder)); e != api.OK {
				return e
			}
		}
		return api.OK
	}
}

// root is the root of a number, rounded down and up: in whole numbers, because that of a float may be rounded past it.
func root(n int) api.Range {
	const most = 1 << 31
	low := sort.Search(most, func(k int) bool { return (k+1)*(k+1) > n })
	if low*low == n {
		return api.Range{Lo: low, Hi: low}
	}
	return api.Range{Lo: low, Hi: low + 1}
}

// scaled is a range, not below 0, times a number and divided by another one, rounded down and up.
func scaled(r api.Range, times, by int) api.Range {
	return api.Range{Lo: r.Lo * times / by, Hi: (r.Hi*times + by - 1) / by}
}

func lengthOf(p api.ImagePath) api.Range { return root(lengthParts * lengthParts * p.Square) }

func delayOf(p api.ImagePath, speed int) api.Range {
	return scaled(lengthOf(p), timeParts/lengthParts, speed)
}

// LengthOf returns the length of a path, in ten-thousandths of a centimetre.
func LengthOf(p api.ImagePath) (api.Range, api.Errno) {
	if e := whole(p)(); e != api.OK {
		return api.Range{}, e
	}
	return lengthOf(p), api.OK
}

// DelayOf returns the delay of a path, in microseconds.
func DelayOf(p api.ImagePath, speed int) (api.Range, api.Errno) {
	if e := firstError(whole(p), audible(speed)); e != api.OK {
		return api.Range{}, e
	}
	return delayOf(p, speed), api.OK
}

// SamplesOf returns the delay of a path, in samples.
func SamplesOf(p api.ImagePath, speed, rate int) (api.Range, api.Errno) {
	e := firstError(whole(p), audible(speed), within(rate, api.LeastRate, api.MaxRate))
	if e != api.OK {
		return api.Range{}, e
	}
	return scaled(delayOf(p, speed), rate, timeParts), api.OK
}

// GapOf returns by how much the second path of a list comes later than the first one.
func GapOf(l []api.ImagePath, speed int) (api.Range, api.Errno) {
	e := firstError(listed(l), audible(speed), refuse(len(l) < 2, api.ErrShape))
	if e != api.OK {
		return api.Range{}, e
	}
	a, b := delayOf(l[0], speed), delayOf(l[1], speed)
	return api.Range{Lo: max(b.Lo-a.Hi, 0), Hi: b.Hi - a.Lo}, api.OK
}

// Arrived returns how many paths of a list have surely arrived at a time, and how many may have.
func Arrived(l []api.ImagePath, speed, micro int) ([2]int, api.Errno) {
	e := firstError(listed(l), audible(speed), within(micro, 0, api.MaxImageMicro))
	if e != api.OK {
		return [2]int{}, e
	}
	var count [2]int
	for _, p := range l {
		delay := delayOf(p, speed)
		if delay.Hi <= micro {
			count[0]++
		}
		if delay.Lo <= micro {
			count[1]++
		}
	}
	return count, api.OK
}
