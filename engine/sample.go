package engine

import (
	"math"

	"shoebox/api"
)

// isWhole tells whether a sample is a whole number; NaN is not, because it is not even equal to itself.
func isWhole(x float32) bool {
	f := float64(x)
	return f == math.Trunc(f) && !math.IsInf(f, 0)
}

// samplesError is the error of the first wrong sample.
func samplesError(l []float32) api.Errno {
	for _, x := range l {
		switch {
		case !isWhole(x):
			return api.ErrWhole
		case x < -api.MaxSample || x > api.MaxSample:
			return api.ErrRange
		}
	}
	return api.OK
}

// blocksError is the error of the first wrong sample of blocks.
func blocksError(l []api.Block) api.Errno {
	for _, b := range l {
		if e := samplesError(b[:]); e != api.OK {
			return e
		}
	}
	return api.OK
}

// put puts samples into others; a whole number on the way makes 0 of -0.
func put(into, l []float32) {
	for t, x := range l {
		into[t] = float32(int(x))
	}
}

// cut is a number cut to the greatest sample, and whether this changed it.
func cut(n int) (int, bool) {
	y := max(-api.MaxSample, min(n, api.MaxSample))
	return y, y != n
}
