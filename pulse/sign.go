package pulse

import "shoebox/api"

func (g generator) signs(start int) []int {
	l := g.bits(start, g.fullPeriod())
	for t, bit := range l {
		l[t] = 1 - 2*bit
	}
	return l
}

// Signs returns the signs of a start.
func Signs(r api.PulseRegister, start int) ([]int, api.Errno) {
	g := generator{r}
	if e := firstError(g.check, g.startsAt(start)); e != api.OK {
		return nil, e
	}
	return g.signs(start), api.OK
}

// Correlation returns the correlation of two lists at a lag.
func Correlation(a, b []int, lag int) (int, api.Errno) {
	e := firstError(
		refuse(len(a) == 0 || len(b) != len(a), api.ErrShape),
		refuse(len(a) > api.MaxPulseBits, api.ErrLarge),
		allSmall(a, api.MaxRecording),
		allSmall(b, api.MaxRecording),
		within(lag, -api.MaxPulseSteps, api.MaxPulseSteps),
	)
	if e != api.OK {
		return 0, e
	}
	sum := 0
	for t, n := range a {
		sum += n * b[modulo(t+lag, len(b))]
	}
	return sum, api.OK
}
