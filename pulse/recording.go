package pulse

import "shoebox/api"

// rounded is a sum of so many numbers divided by how many they are, to the nearest whole number, halves up.
func rounded(sum, count int) int { return floor(2*sum+count, 2*count) }

// Averaged returns the mean of recordings.
func Averaged(l [][]complex64) ([]complex64, api.Errno) {
	e := firstError(
		refuse(len(l) == 0, api.ErrShape),
		refuse(len(l) > api.MaxPulseTakes, api.ErrLarge),
		each(len(l), func(i int) api.Errno {
			return firstError(listed(l[i]), refuse(len(l[i]) != len(l[0]), api.ErrClash))
		}),
	)
	if e != api.OK {
		return nil, e
	}
	means := make([]number, len(l[0]))
	for t := range means {
		var sum number
		for _, take := range l {
			sum = sum.plus(numberOf(take[t]))
		}
		means[t] = number{rounded(sum.re, len(l)), rounded(sum.im, len(l))}
	}
	return recorded(means)
}

// Ears returns the responses of the left and the right ear.
func Ears(h []complex64, rate int) ([2]api.Response, api.Errno) {
	e := firstError(
		listed(h),
		within(rate, api.LeastRate, api.MaxRate),
		each(len(h), func(i int) api.Errno { return numberOf(h[i]).small(api.MaxSample)() }),
	)
	if e != api.OK {
		return [2]api.Response{}, e
	}
	left, right := api.Response{Rate: rate}, api.Response{Rate: rate}
	for _, n := range numbersOf(h) {
		left.Samples = append(left.Samples, float32(n.re))
		right.Samples = append(right.Samples, float32(n.im))
	}
	return [2]api.Response{left, right}, api.OK
}
