package energy

import "shoebox/api"

// CheckEchoes returns the first error of echoes, and the number of the echo that has it.
func CheckEchoes(l []api.EnergyEcho) (int, api.Errno) {
	if len(l) > api.MaxEnergyEchoes {
		return 0, api.ErrLarge
	}
	return firstWrong(len(l), func(i int) api.Errno {
		return firstError(
			ends{l[i].Delay}.within(api.MaxImageMicro),
			ends{l[i].Energy}.within(api.Whole),
			refuse(i > 0 && l[i].Delay.Lo < l[i-1].Delay.Lo, api.ErrOrder),
		)
	})
}

// heard is the check that echoes have no error, and that a time or a window for them is one.
func heard(l []api.EnergyEcho, micro int) check {
	return func() api.Errno {
		return firstError(unnumbered(CheckEchoes(l)), within(micro, 0, api.MaxImageMicro))
	}
}

// UpTo returns what has arrived at a time.
func UpTo(l []api.EnergyEcho, micro int) (api.Range, api.Errno) {
	if e := heard(l, micro)(); e != api.OK {
		return api.Range{}, e
	}
	var sum api.Range
	for _, echo := range l {
		if echo.Delay.Hi <= micro {
			sum.Lo += echo.Energy.Lo
		}
		if echo.Delay.Lo <= micro {
			sum.Hi += echo.Energy.Hi
		}
	}
	return sum, api.OK
}

// burstFrom is the burst from an echo on. Greatest delays need not ascend, so an echo behind one that comes too late may belong to it.
func burstFrom(l []api.EnergyEcho, first, window int) api.EnergyBurst {
	burst := api.EnergyBurst{First: first}
	for _, echo := range l[first:] {
		if echo.Delay.Hi-l[first].Delay.Lo <= window {
			burst.Count++
			burst.Energy += echo.Energy.Lo
		}
	}
	return burst
}

// BurstOf returns the burst with the most energy.
func BurstOf(l []api.EnergyEcho, window int) (api.EnergyBurst, api.Errno) {
	if e := firstError(heard(l, window), refuse(len(l) == 0, api.ErrNone)); e != api.OK {
		return api.EnergyBurst{}, e
	}
	best := burstFrom(l, 0, window)
	for i := range l {
		if burst := burstFrom(l, i, window); burst.Energy > best.Energy {
			best = burst
		}
	}
	return best, api.OK
}
