package array

import (
	"slices"

	"shoebox/api"
)

// mostLevel is the greatest cap, and the greatest level that may be asked for.
const mostLevel = 1000

// task is a task that is worked on.
type task struct{ api.ArrayTask }

// columns is how many loudspeakers there are; there has to be a row.
func (t task) columns() int { return len(t.Table[0]) }

func (t task) check() api.Errno {
	return firstError(
		counted(len(t.Table), api.MaxArraySeats),
		func() api.Errno { return counted(t.columns(), api.MaxArrayColumns)() },
		each(len(t.Table), func(i int) api.Errno {
			row := t.Table[i]
			return firstError(
				refuse(len(row) != t.columns(), api.ErrShape),
				allWithin(row, 0, api.MaxArrayTable),
			)
		}),
		within(t.Cap, 0, mostLevel),
	)
}

// products is a sum of products of numbers of two lists of the same length.
func products(a, b []int) int {
	sum := 0
	for i, n := range a {
		sum += n * b[i]
	}
	return sum
}

// gets is what the seats get from what is open, times its denominator.
func (t task) gets(o api.ArrayOpen) []int {
	var l []int
	for _, row := range t.Table {
		l = append(l, products(row, o.Open))
	}
	return l
}

// opened is the condition that something open is accepted; the task has to be right.
func (t task) opened(o api.ArrayOpen) condition {
	return func() api.Errno {
		return firstError(
			within(o.Den, 1, api.MaxArrayDen),
			func() api.Errno { return refuse(len(o.Open) != t.columns(), api.ErrShape)() },
			allWithin(o.Open, 0, o.Den),
			func() api.Errno { return refuse(slices.Max(t.gets(o)) > t.Cap*o.Den, api.ErrBreak)() },
		)
	}
}

// weighed is the condition that weights are right; the task has to be right.
func (t task) weighed(w api.ArrayWeights) condition {
	return func() api.Errno {
		seats := len(t.Table)
		isOther := len(w.Low) != seats || len(w.High) != seats || len(w.Caps) != t.columns()
		return firstError(
			within(w.Den, 1, api.MaxArrayDen),
			refuse(isOther, api.ErrShape),
			allWithin(w.Low, 0, api.MaxArrayDen),
			allWithin(w.High, 0, api.MaxArrayDen),
			allWithin(w.Caps, 0, api.MaxArrayDen),
			func() api.Errno { return refuse(!t.proves(w), api.ErrProof)() },
		)
	}
}

// proves tells whether weights are right, whose numbers are.
func (t task) proves(w api.ArrayWeights) bool {
	rest := w.Den
	least := make([]int, t.columns())
	for i, row := range t.Table {
		rest -= w.Low[i]
		for j, n := range row {
			least[j] += (w.Low[i] - w.High[i]) * n
		}
	}
	for j, n := range least {
		if w.Caps[j] < n {
			return false
		}
	}
	return rest == 0
}

// bound is the bound of right weights.
func (t task) bound(w api.ArrayWeights) fraction {
	sum := 0
	for _, n := range w.High {
		sum += n * t.Cap
	}
	for _, n := range w.Caps {
		sum += n
	}
	return fraction{sum, w.Den}
}

// CheckTask returns the first error of a task.
func CheckTask(t api.ArrayTask) api.Errno { return task{t}.check() }

// CheckOpen accepts what is open, and returns its value.
func CheckOpen(t api.ArrayTask, o api.ArrayOpen) ([2]int, api.Errno) {
	k := task{t}
	if e := firstError(k.check, k.opened(o)); e != api.OK {
		return [2]int{}, e
	}
	return fraction{slices.Min(k.gets(o)), o.Den}.lowest(), api.OK
}

// CheckWeights accepts right weights, and returns their bound.
func CheckWeights(t api.ArrayTask, w api.ArrayWeights) ([2]int, api.Errno) {
	k := task{t}
	if e := firstError(k.check, k.weighed(w)); e != api.OK {
		return [2]int{}, e
	}
	return k.bound(w).lowest(), api.OK
}

// CannotReach accepts weights that prove that nothing accepted has a value of at least a level.
func CannotReach(t api.ArrayTask, level int, w api.ArrayWeights) api.Errno {
	k := task{t}
	return firstError(
		k.check,
		within(level, 0, mostLevel),
		k.weighed(w),
		func() api.Errno { return refuse(k.bound(w).isAtLeast(level), api.ErrProof)() },
	)
}
