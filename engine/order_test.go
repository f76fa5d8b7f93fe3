package engine_test

import (
	"math/rand"
	"slices"
	"testing"

	"shoebox/api"
	"shoebox/engine"
)

// P9.1: the orders and stages of the examples, and of units that need others for other reasons.
func TestOrders(t *testing.T) {
	for _, c := range []struct {
		name   string
		g      api.EngineGraph
		order  []int
		stages [][]int
	}{
		{"the example", plain(), list(0, 1, 2, 3), rows(list(0), list(1), list(2), list(3))},
		{"nothing", graphOf(), nil, nil},
		{"one", graphOf(input()), list(0), rows(list(0))},
		{"turned round", graphOf(output(1, 0), output(2, 0), input()), list(2, 1, 0), rows(list(2), list(1), list(0))},
		{"a stand-in behind", graphOf(behind(2, input()), input(), input()), list(1, 2, 0), rows(list(1, 2), list(0))},
		{"the least one first", graphOf(output(3, 0), input(), output(1, 0), input()), list(1, 2, 3, 0), rows(list(1, 3), list(0, 2))},
		{"a long and a short way", graphOf(input(), sum(taken{0, 0, 1}, taken{3, 0, 1}), output(0, 0), output(2, 0)), list(0, 2, 3, 1), rows(list(0), list(2), list(3), list(1))},
		{"a stand-in of a stage", graphOf(input(), output(0, 0), behind(1, output(0, 0))), list(0, 1, 2), rows(list(0), list(1), list(2))},
	} {
		l, e := engine.Order(c.g)
		wantSame(t, "Order of "+c.name, l, e, c.order, api.OK)
		wantErrno(t, "CheckOrder of "+c.name, engine.CheckOrder(c.g, l), api.OK)
		stages, e := engine.Stages(c.g)
		wantSame(t, "Stages of "+c.name, stages, e, c.stages, api.OK)
	}
}

// P9.1: lists that are no orders, and the order of errors.
func TestWrongOrders(t *testing.T) {
	g := plain()
	for _, c := range []struct {
		l    []int
		want api.Errno
	}{
		{list(0, 1, 2, 3), api.OK},
		{nil, api.ErrShape},
		{list(0, 1, 2), api.ErrShape},
		{list(0, 1, 2, 3, 3), api.ErrShape},
		{list(9, 9, 9), api.ErrShape},
		{list(0, 1, 2, 4), api.ErrMissing},
		{list(0, 1, 2, -1), api.ErrMissing},
		{list(leastInt, 0, 1, 2), api.ErrMissing},
		{list(0, greatestInt, 0, 3), api.ErrMissing},
		{list(0, 0, 9, 3), api.ErrDouble},
		{list(0, 1, 2, 1), api.ErrDouble},
		{list(0, 3, 3, 9), api.ErrOrder},
		{list(1, 0, 2, 3), api.ErrOrder},
		{list(1, 1, 1, 1), api.ErrOrder},
		{list(0, 2, 1, 3), api.ErrOrder},
		{list(0, 1, 3, 2), api.ErrOrder},
	} {
		wantErrno(t, "CheckOrder of "+textOf(c.l), engine.CheckOrder(g, c.l), c.want)
	}
	other := graphOf(behind(1, input()), input(), input())
	wantErrno(t, "a stand-in behind", engine.CheckOrder(other, list(0, 1, 2)), api.ErrOrder)
	wantErrno(t, "another order", engine.CheckOrder(other, list(2, 1, 0)), api.OK)
	wantErrno(t, "nothing", engine.CheckOrder(graphOf(), nil), api.OK)
	wantErrno(t, "too much", engine.CheckOrder(graphOf(), list(0)), api.ErrShape)
}

// P9.1: orders and stages are those of the definitions.
func TestOrdersSlowly(t *testing.T) {
	r := rand.New(rand.NewSource(2))
	for range 60 {
		g := anyGraph(r, 6)
		l, e := engine.Order(g)
		wantSame(t, "Order", l, e, slowOrder(g), api.OK)
		permutations(len(g.Units), func(l []int) {
			want := api.ErrOrder
			if isOrder(g, l) {
				want = api.OK
			}
			wantErrno(t, "CheckOrder", engine.CheckOrder(g, l), want)
		})
	}
	for range 100 {
		g := anyGraph(r, 12)
		l, e := engine.Order(g)
		wantErrno(t, "Order", e, engine.CheckOrder(g, l))
		stages, e := engine.Stages(g)
		var want [][]int
		for unit := range g.Units {
			stage := slowStage(g, unit)
			for len(want) <= stage {
				want = append(want, nil)
			}
			want[stage] = append(want[stage], unit)
		}
		wantSame(t, "Stages", stages, e, want, api.OK)
		wantErrno(t, "stages are an order", engine.CheckOrder(g, slices.Concat(stages...)), api.OK)
	}
}
