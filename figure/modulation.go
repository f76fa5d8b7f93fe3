package figure

import "shoebox/api"

// turn is a power of the imaginary unit.
type turn struct{ re, im int }

// turns is the powers to 0, -1, -2 and -3; then they come again.
var turns = [...]turn{{1, 0}, {0, -1}, {-1, 0}, {0, 1}}

// modulation is the real and the imaginary part of the modulation by a block.
func (h heard) modulation(block int) (re, im int) {
	for t := range h.count() {
		power, energy := turns[t/block%len(turns)], h.square(t).Lo
		re += power.re * energy
		im += power.im * energy
	}
	return re, im
}

func blockError(block int) api.Errno { return within(block, 1, api.MaxResponse) }

// Modulated returns the modulation of a response by a block.
func Modulated(r api.Response, block int) (complex128, api.Errno) {
	h, e := hear(plain(r))
	if e := firstError(e, blockError(block)); e != api.OK {
		return 0, e
	}
	re, im := h.modulation(block)
	return complex(float64(re), float64(im)), api.OK
}

// Transfer returns the square of the size of the modulation, divided by that of the energy.
func Transfer(r api.Response, block int) (api.Frac, api.Errno) {
	h, e := hear(plain(r))
	if e := firstError(e, blockError(block)); e != api.OK {
		return api.Frac{}, e
	}
	energy := h.all().Lo
	// so its square is an int, and that of the modulation too, because this is not greater
	if energy > api.MaxPart {
		return api.Frac{}, api.ErrLarge
	}
	re, im := h.modulation(block)
	return share(re*re+im*im, energy*energy)
}
