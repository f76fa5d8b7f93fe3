package loop

import (
	"slices"

	"shoebox/api"
)

// feedback is a loop that is worked with.
type feedback struct{ api.Loop }

func (f feedback) check() api.Errno {
	return firstError(
		counted(len(f.Taps), api.MaxLoopTaps),
		func() api.Errno { return refuse(f.Taps[0] != 0, api.ErrZero)() },
		allWithin(f.Taps, -api.LoopOne, api.LoopOne),
		within(f.Gain, 0, api.MaxLoopGain),
	)
}

// size is in thousandths: what comes back in all, at most, for each thousand.
func (f feedback) size() int {
	sum := 0
	for _, tap := range f.Taps {
		sum += size(tap)
	}
	return ceiling(sum*f.Gain, api.LoopOne)
}

// scaled is the loop with another gain, and its own taps; its gain may be too great.
func (f feedback) scaled(n int) feedback {
	return feedback{api.Loop{Taps: slices.Clone(f.Taps), Gain: ceiling(f.Gain*n, api.Thousand)}}
}

// allRight is the condition that loops are right.
func allRight(l []api.Loop) condition {
	return func() api.Errno {
		return firstError(
			counted(len(l), api.MaxLoops),
			each(len(l), func(i int) api.Errno { return CheckLoop(l[i]) }),
		)
	}
}

// CheckLoop returns the first error of a loop.
func CheckLoop(l api.Loop) api.Errno { return feedback{l}.check() }

// SizeOf returns the size of a loop, in thousandths.
func SizeOf(l api.Loop) (int, api.Errno) {
	f := feedback{l}
	if e := f.check(); e != api.OK {
		return 0, e
	}
	return f.size(), api.OK
}

// Scaled returns a loop scaled by thousandths.
func Scaled(l api.Loop, n int) (api.Loop, api.Errno) {
	f := feedback{l}
	if e := firstError(f.check, within(n, 0, api.MaxLoopMargin)); e != api.OK {
		return api.Loop{}, e
	}
	s := f.scaled(n)
	if e := s.check(); e != api.OK {
		return api.Loop{}, e
	}
	return s.Loop, api.OK
}
