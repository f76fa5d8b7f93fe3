package loop

import "shoebox/api"

// nextEcho is the echo that comes behind those that were there.
func (f feedback) nextEcho(before []int) int {
	sum := 0
	for k := 1; k < len(f.Taps) && k <= len(before); k++ {
		sum += f.Taps[k] * before[len(before)-k]
	}
	return min(max(nearest(sum*f.Gain, oneGain), -api.LoopCut), api.LoopCut)
}

func (f feedback) echoes(height, count int) []int {
	l := []int{height}
	for len(l) < count {
		l = append(l, f.nextEcho(l))
	}
	return l[:count]
}

// high is the condition that a height is one.
func high(height int) condition { return within(height, -api.MaxSample, api.MaxSample) }

// Echoes returns the first echoes of a loop for a height.
func Echoes(l api.Loop, height, count int) ([]int, api.Errno) {
	f := feedback{l}
	if e := firstError(f.check, high(height), within(count, 0, api.MaxLoopEchoes)); e != api.OK {
		return nil, e
	}
	return f.echoes(height, count), api.OK
}

// EchoBound returns a bound of all echoes of a loop but the first one.
func EchoBound(l api.Loop, height int) (int, api.Errno) {
	f := feedback{l}
	if e := firstError(f.check, high(height)); e != api.OK {
		return 0, e
	}
	left := api.Thousand - f.size()
	if left <= 0 {
		return 0, api.ErrNone
	}
	// half of one more for each echo, because it may have been rounded by so much
	return (f.size()*size(height) + api.Thousand/2) / left, api.OK
}
