package filter

import (
	"math"

	"shoebox/api"
)

// isWhole tells whether a sample is a whole number; NaN is not, because it is not even equal to itself.
func isWhole(sample float32) bool {
	f := float64(sample)
	return f == math.Trunc(f) && !math.IsInf(f, 0)
}

func sampleError(sample float32) api.Errno {
	return firstError(
		refuse(!isWhole(sample), api.ErrWhole),
		refuse(sample < -api.MaxSample || sample > api.MaxSample, api.ErrRange),
	)
}

// numbersOf is samples as ints, because sums on the way to an output are greater than the whole numbers that floats can tell apart.
func numbersOf(l []float32) ([]int, api.Errno) {
	var numbers []int
	for _, sample := range l {
		if e := sampleError(sample); e != api.OK {
			return nil, e
		}
		numbers = append(numbers, int(sample))
	}
	return numbers, api.OK
}

func samplesOf(l []int) []float32 {
	var samples []float32
	for _, n := range l {
		samples = append(samples, float32(n))
	}
	return samples
}
