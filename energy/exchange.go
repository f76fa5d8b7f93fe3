package energy

import (
	"slices"

	"shoebox/api"
)

// CheckExchange returns the first error of an exchange, and the number of the patch that has it.
func CheckExchange(x api.EnergyExchange) (int, api.Errno) {
	patches := len(x.Shares)
	e := firstError(
		refuse(patches == 0, api.ErrShape),
		refuse(patches > api.MaxEnergyPatch, api.ErrLarge),
		refuse(len(x.Lost) != patches, api.ErrShape),
	)
	if e != api.OK {
		return 0, e
	}
	return firstWrong(patches, func(i int) api.Errno {
		return firstError(
			refuse(len(x.Shares[i]) != patches, api.ErrShape),
			allWithin(x.Shares[i], 0, api.Thousand),
			refuse(sumOf(x.Shares[i]) != api.Thousand, api.ErrSum),
			within(x.Lost[i], 0, api.Thousand),
		)
	})
}

func sumOf(l []int) int {
	sum := 0
	for _, n := range l {
		sum += n
	}
	return sum
}

// exchanged is the check that an exchange has no error.
func exchanged(x api.EnergyExchange) check { return unnumbered(CheckExchange(x)) }

// perPatch is the check that a list has a number in a range for each patch.
func perPatch(x api.EnergyExchange, l []int, least, greatest int) check {
	return func() api.Errno {
		return firstError(
			refuse(len(l) != len(x.Shares), api.ErrShape),
			allWithin(l, least, greatest),
		)
	}
}

// energies is the check that energies are those of an exchange.
func energies(x api.EnergyExchange, l []int) check { return perPatch(x, l, 0, api.Whole) }

// stepped is the check that a number is one of steps.
func stepped(steps int) check { return within(steps, 0, api.MaxEnergySteps) }

// spread gives energy to patches by the shares of a row.
func spread(to, shares []int, energy int) {
	left := energy
	for k, share := range shares {
		part := down(energy*share, api.Thousand)
		to[k] += part
		left -= part
	}
	to[slices.Index(shares, slices.Max(shares))] += left
}

// stepFrom is the energies behind a step, and what is lost. They may be more than Whole, as in the midst of a run.
func stepFrom(x api.EnergyExchange, l []int) ([]int, int) {
	next, lost := make([]int, len(l)), 0
	for i, energy := range l {
		gone := up(energy*x.Lost[i], api.Thousand)
		lost += gone
		spread(next, x.Shares[i], energy-gone)
	}
	return next, lost
}

// Step returns the energies behind a step, and what was lost.
func Step(x api.EnergyExchange, e []int) ([]int, int, api.Errno) { return Run(x, e, 1) }

// Run returns the energies behind some steps, and what was lost in all of them.
func Run(x api.EnergyExchange, e []int, steps int) ([]int, int, api.Errno) {
	if err := firstError(exchanged(x), energies(x, e), stepped(steps)); err != api.OK {
		return nil, 0, err
	}
	l, lost := slices.Clone(e), 0
	for range steps {
		next, gone := stepFrom(x, l)
		l, lost = next, lost+gone
	}
	return l, lost, api.OK
}

// BoundOf returns the bound of a total behind some steps.
func BoundOf(x api.EnergyExchange, total, steps int) (api.Range, api.Errno) {
	const mostTotal = api.MaxEnergyPatch * api.Whole
	if e := firstError(exchanged(x), within(total, 0, mostTotal), stepped(steps)); e != api.OK {
		return api.Range{}, e
	}
	least, greatest := slices.Min(x.Lost), slices.Max(x.Lost)
	bound := exactly(total)
	for range steps {
		bound.Hi -= up(bound.Hi*least, api.Thousand)
		// each patch may round what it loses up
		bound.Lo = max(bound.Lo-down(bound.Lo*greatest, api.Thousand)-len(x.Lost), 0)
	}
	return bound.Range, api.OK
}

// partOf is so many millionths of a total, rounded down: not by one product, which might be too great for an int.
func partOf(total, millionths int) int {
	return total/api.Million*millionths + down(total%api.Million*millionths, api.Million)
}

// StepsTo returns how many steps leave at most so many millionths of all energies.
func StepsTo(x api.EnergyExchange, e []int, millionths int) (int, api.Errno) {
	if err := firstError(exchanged(x), energies(x, e), within(millionths, 0, api.Million)); err != api.OK {
		return 0, err
	}
	enough := partOf(sumOf(e), millionths)
	for steps := range api.MaxEnergySteps + 1 {
		if sumOf(e) <= enough {
			return steps, api.OK
		}
		e, _ = stepFrom(x, e)
	}
	return 0, api.ErrNone
}

// IsReciprocal returns whether any two patches with these areas give each other alike.
func IsReciprocal(x api.EnergyExchange, areas []int) (bool, api.Errno) {
	if e := firstError(exchanged(x), perPatch(x, areas, 1, api.MaxPart)); e != api.OK {
		return false, e
	}
	for i, row := range x.Shares {
		for k, share := range row {
			if areas[i]*share != areas[k]*x.Shares[k][i] {
				return false, api.OK
			}
		}
	}
	return true, api.OK
}
