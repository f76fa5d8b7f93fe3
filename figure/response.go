package figure

import (
	"math"

	"shoebox/api"
)

// isWhole tells whether a sample is a whole number; NaN is not, because it is not even equal to itself.
func isWhole(sample float32) bool {
	f := float64(sample)
	return f == math.Trunc(f) && !math.IsInf(f, 0)
}

func sampleError(sample float32) api.Errno {
	return firstError(
		refuse(!isWhole(sample), api.ErrWhole),
		refuse(sample < -api.MaxSample || sample > api.MaxSample, api.ErrRange),
	)
}

func rateError(rate int) api.Errno { return within(rate, api.LeastRate, api.MaxRate) }

func timeError(time int) api.Errno { return within(time, 0, api.MaxFigureTime) }

// sampleAt is the first number whose sample is not ahead of a time.
func sampleAt(rate, time int) int { return up(time*rate, api.Million) }

// CheckResponse returns the first error of a response, and the number of the sample that has it.
func CheckResponse(r api.Response) (int, api.Errno) {
	e := firstError(
		rateError(r.Rate),
		refuse(len(r.Samples) == 0, api.ErrShape),
		refuse(len(r.Samples) > api.MaxResponse, api.ErrLarge),
	)
	if e != api.OK {
		return 0, e
	}
	for t, sample := range r.Samples {
		if e := sampleError(sample); e != api.OK {
			return t, e
		}
	}
	return 0, api.OK
}

// CheckAsk returns the first error of an ask, and the number of the sample that has it.
func CheckAsk(a api.FigureAsk) (int, api.Errno) {
	if t, e := CheckResponse(a.Response); e != api.OK {
		return t, e
	}
	return 0, firstError(
		within(a.Noise, 0, api.MaxFigureNoise),
		within(a.Tail, 0, api.MaxFigureTail),
	)
}

// SampleAt returns the first number whose sample is not ahead of a time.
func SampleAt(rate, time int) (int, api.Errno) {
	if e := firstError(rateError(rate), timeError(time)); e != api.OK {
		return 0, e
	}
	return sampleAt(rate, time), api.OK
}
