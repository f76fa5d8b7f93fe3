package energy_test

import (
	"math/big"
	"math/rand"
	"slices"
	"testing"

	"shoebox/api"
	"shoebox/energy"
)

func exchange(lost []int, shares ...[]int) api.EnergyExchange {
	return api.EnergyExchange{Shares: shares, Lost: lost}
}

// pair is the exchange of the chapter's examples.
func pair() api.EnergyExchange { return exchange(list(100, 0), list(500, 500), list(1000, 0)) }

// alone is one patch.
func alone(lost int) api.EnergyExchange { return exchange(list(lost), list(1000)) }

// pool is as many patches as can be, which give all to the first one.
func pool(patches, lost int) api.EnergyExchange {
	x := exchange(slices.Repeat(list(lost), patches))
	for range patches {
		row := make([]int, patches)
		row[0] = 1000
		x.Shares = append(x.Shares, row)
	}
	return x
}

// full is as much energy as so many patches can have.
func full(patches int) []int { return slices.Repeat(list(1000000000000), patches) }

// exchangeErrors is what is wrong with exchanges.
var exchangeErrors = []struct {
	name   string
	x      api.EnergyExchange
	number int
	want   api.Errno
}{
	{"no patches", api.EnergyExchange{}, 0, api.ErrShape},
	{"no patches, but what they lose", exchange(list(1)), 0, api.ErrShape},
	{"too many patches", pool(13, 0), 0, api.ErrLarge},
	{"too many patches, and none loses", api.EnergyExchange{Shares: make([][]int, 13)}, 0, api.ErrLarge},
	{"too few that lose", exchange(list(1), list(500, 500), list(500, 500)), 0, api.ErrShape},
	{"too many that lose", exchange(list(1, 1), list(1000)), 0, api.ErrShape},
	{"nothing lost", exchange(nil, list(1000)), 0, api.ErrShape},
	{"what loses ahead of rows", exchange(list(1), list(1), list(-1)), 0, api.ErrShape},
	{"a row too short", exchange(list(1, 1), list(500, 500), list(1000)), 1, api.ErrShape},
	{"a row too long", exchange(list(1, 1), list(500, 250, 250), list(500, 500)), 0, api.ErrShape},
	{"no row", exchange(list(1, 1), list(500, 500), nil), 1, api.ErrShape},
	{"the shape ahead of shares", exchange(list(1, 1), list(1001), list(500, 500)), 0, api.ErrShape},
	{"a share below 0", exchange(list(1, 1), list(500, 500), list(1000, -1)), 1, api.ErrRange},
	{"a share too great", exchange(list(1, 1), list(-1, 1001), list(500, 500)), 0, api.ErrRange},
	{"only the last share is too great", exchange(list(1, 1), list(0, 1001), list(500, 500)), 0, api.ErrRange},
	{"the least share", exchange(list(1, 1), list(leastInt, 0), list(500, 500)), 0, api.ErrRange},
	{"shares that are 1000 by going around", exchange(list(1, 1, 1), list(greatestInt, greatestInt, 1002), list(1000, 0, 0), list(1000, 0, 0)), 0, api.ErrRange},
	{"a share ahead of the sum", exchange(list(1, 1), list(500, 1001), list(500, 500)), 0, api.ErrRange},
	{"a sum too small", exchange(list(1, 1), list(500, 500), list(999, 0)), 1, api.ErrSum},
	{"a sum too great", exchange(list(1, 1), list(501, 500), list(999, 0)), 0, api.ErrSum},
	{"the sum ahead of what is lost", exchange(list(-1, 1), list(501, 500), list(999, 0)), 0, api.ErrSum},
	{"lost below 0", exchange(list(1, -1), list(500, 500), list(999, 1)), 1, api.ErrRange},
	{"lost too much", exchange(list(1001, 1), list(500, 500), list(999, 0)), 0, api.ErrRange},
	{"the first patch ahead", exchange(list(1001, 1), list(500, 500), list(1)), 0, api.ErrRange},
}

// P3.4: the errors of an exchange, with the number of the patch; all functions of exchanges return them first.
func TestCheckExchange(t *testing.T) {
	for _, x := range []api.EnergyExchange{
		pair(), alone(0), alone(1000), pool(12, 1000), exchange(list(0, 1000), list(0, 1000), list(1, 999)),
	} {
		if n, e := energy.CheckExchange(x); n != 0 || e != api.OK {
			t.Errorf("%v: %d, %d", x, n, e)
		}
	}
	for _, c := range exchangeErrors {
		n, e := energy.CheckExchange(c.x)
		if n != c.number || e != c.want {
			t.Errorf("%s: %d, %d, want %d, %d", c.name, n, e, c.number, c.want)
		}
		l, lost, e := energy.Step(c.x, list(-1))
		wantErrno(t, c.name+": Step", e, c.want)
		m, more, e := energy.Run(c.x, list(-1), -1)
		wantErrno(t, c.name+": Run", e, c.want)
		r, e := energy.BoundOf(c.x, -1, -1)
		wantErrno(t, c.name+": BoundOf", e, c.want)
		steps, e := energy.StepsTo(c.x, list(-1), -1)
		wantErrno(t, c.name+": StepsTo", e, c.want)
		is, e := energy.IsReciprocal(c.x, list(0))
		wantErrno(t, c.name+": IsReciprocal", e, c.want)
		if len(l)+len(m)+lost+more+steps != 0 || is || r != (api.Range{}) {
			t.Errorf("%s: %v, %v, %d, %d, %d, %v, %v", c.name, l, m, lost, more, steps, is, r)
		}
	}
}

// energyErrors is what is wrong with energies of two patches.
var energyErrors = []struct {
	e    []int
	want api.Errno
}{
	{list(0, 0), api.OK},
	{list(1000000000000, 1000000000000), api.OK},
	{list(), api.ErrShape},
	{nil, api.ErrShape},
	{list(1), api.ErrShape},
	{list(-1, -1, -1), api.ErrShape},
	{list(-1, 0), api.ErrRange},
	{list(0, -1), api.ErrRange},
	{list(1000000000001, 0), api.ErrRange},
	{list(0, 1000000000001), api.ErrRange},
	{list(leastInt, leastInt), api.ErrRange},
}

// P3.4: the errors of energies, and those of steps and millionths behind them.
func TestExchangeErrors(t *testing.T) {
	for _, c := range energyErrors {
		l, lost, e := energy.Step(pair(), c.e)
		wantErrno(t, "Step", e, c.want)
		if e != api.OK && len(l)+lost != 0 {
			t.Errorf("%v: %v, %d", c.e, l, lost)
		}
		for _, steps := range list(0, 1000, -1, 1001, leastInt, greatestInt) {
			want := c.want
			if want == api.OK && (steps < 0 || steps > 1000) {
				want = api.ErrRange
			}
			l, lost, e := energy.Run(pair(), c.e, steps)
			wantErrno(t, "Run", e, want)
			if e != api.OK && len(l)+lost != 0 {
				t.Errorf("%v, %d: %v, %d", c.e, steps, l, lost)
			}
		}
		for _, millionths := range list(0, 1000000, -1, 1000001, leastInt, greatestInt) {
			want := c.want
			if want == api.OK && (millionths < 0 || millionths > 1000000) {
				want = api.ErrRange
			}
			n, e := energy.StepsTo(exchange(list(1000, 1000), list(0, 1000), list(1000, 0)), c.e, millionths)
			wantErrno(t, "StepsTo", e, want)
			if e != api.OK && n != 0 {
				t.Errorf("%v, %d: %d", c.e, millionths, n)
			}
		}
	}
}

// P3.4: steps.
func TestStep(t *testing.T) {
	for _, c := range []struct {
		name string
		x    api.EnergyExchange
		e    []int
		want []int
		lost int
	}{
		{"the example", pair(), list(100, 11), list(56, 45), 10},
		{"what is left goes to the greatest share", exchange(list(0, 0), list(333, 667), list(1000, 0)), list(5, 0), list(1, 4), 0},
		{"what is left goes to the first of the greatest", exchange(list(0, 0, 0), list(200, 400, 400), list(0, 0, 1000), list(0, 1000, 0)), list(4, 0, 0), list(0, 3, 1), 0},
		{"more than one is left", exchange(list(0, 0, 0), list(300, 300, 400), list(0, 0, 1000), list(0, 1000, 0)), list(2, 0, 0), list(0, 0, 2), 0},
		{"one part is lost as a whole", alone(1), list(1), list(0), 1},
		{"1000 parts lose one", alone(1), list(1000), list(999), 1},
		{"1001 parts lose two", alone(1), list(1001), list(999), 2},
		{"nothing is lost", alone(0), list(7), list(7), 0},
		{"all is lost", alone(1000), list(7), list(0), 7},
		{"nothing", pair(), list(0, 0), list(0, 0), 0},
		{"each patch loses by itself", exchange(list(500, 100), list(0, 1000), list(1000, 0)), list(3, 3), list(2, 1), 3},
		{"a share for itself", exchange(list(0, 0), list(1000, 0), list(1, 999)), list(10, 2000), list(12, 1998), 0},
		{"all at once to one", pool(12, 0), full(12), append(list(12000000000000), make([]int, 11)...), 0},
	} {
		l, lost, e := energy.Step(c.x, c.e)
		if !slices.Equal(l, c.want) || lost != c.lost || e != api.OK {
			t.Errorf("%s: %v, %d, %d, want %v, %d", c.name, l, lost, e, c.want, c.lost)
		}
		m, more, e := energy.Run(c.x, c.e, 1)
		if !slices.Equal(m, l) || more != lost || e != api.OK {
			t.Errorf("%s: a run of one step: %v, %d, %d", c.name, m, more, e)
		}
	}
}

// P3.4: runs.
func TestRun(t *testing.T) {
	for _, c := range []struct {
		name  string
		x     api.EnergyExchange
		e     []int
		steps int
		want  []int
		lost  int
	}{
		{"no step", pair(), list(100, 11), 0, list(100, 11), 0},
		{"two steps", pair(), list(100, 11), 2, list(70, 25), 16},
		{"three steps", pair(), list(100, 11), 3, list(57, 31), 23},
		{"to and fro", exchange(list(0, 0), list(0, 1000), list(1000, 0)), list(3, 4), 999, list(4, 3), 0},
		{"to and fro again", exchange(list(0, 0), list(0, 1000), list(1000, 0)), list(3, 4), 1000, list(3, 4), 0},
		{"one by one", alone(1), list(1000), 1000, list(0), 1000},
		{"almost to the end", alone(1), list(1000), 999, list(1), 999},
		{"more than a patch can have at first", pool(12, 500), full(12), 2, append(list(3000000000000), make([]int, 11)...), 9000000000000},
	} {
		l, lost, e := energy.Run(c.x, c.e, c.steps)
		if !slices.Equal(l, c.want) || lost != c.lost || e != api.OK {
			t.Errorf("%s: %v, %d, %d, want %v, %d", c.name, l, lost, e, c.want, c.lost)
		}
	}
}

// anyRow is shares that are 1000 together; some of them are 0, or alike.
func anyRow(r *rand.Rand, patches int) []int {
	row := make([]int, patches)
	left := 1000
	for left > 0 {
		part := min(left, 1+r.Intn(1000))
		if r.Intn(2) == 0 {
			part = min(left, 50*(1+r.Intn(5)))
		}
		row[r.Intn(patches)] += part
		left -= part
	}
	return row
}

func anyExchange(r *rand.Rand) api.EnergyExchange {
	var x api.EnergyExchange
	patches, most := 1+r.Intn(12), list(1, 20, 1001)[r.Intn(3)]
	for range patches {
		x.Shares = append(x.Shares, anyRow(r, patches))
		x.Lost = append(x.Lost, r.Intn(most))
	}
	return x
}

func anyEnergies(r *rand.Rand, patches int) []int {
	most := list(2, 20, 10000, 1000000000001)[r.Intn(4)]
	var e []int
	for range patches {
		e = append(e, r.Intn(most))
	}
	return e
}

func ints(l []*big.Int) []int {
	var m []int
	for _, n := range l {
		m = append(m, toInt(n))
	}
	return m
}

// P3.4: runs as they follow from the definition. P3.6: what is lost and what is left are together what there was.
func TestRunSlowly(t *testing.T) {
	r := rand.New(rand.NewSource(1))
	for range 300 {
		x, steps := anyExchange(r), r.Intn(20)
		e := anyEnergies(r, len(x.Lost))
		want, lost := numbers(e), number(0)
		for range steps {
			next, gone := slowStep(x, want)
			want, lost = next, total(lost, gone)
		}
		l, n, err := energy.Run(x, e, steps)
		if !slices.Equal(l, ints(want)) || n != toInt(lost) || err != api.OK {
			t.Fatalf("%v, %v, %d: %v, %d, %d, want %v, %v", x, e, steps, l, n, err, want, lost)
		}
		if sum(l)+n != sum(e) {
			t.Fatalf("%v, %v, %d: %v and %d", x, e, steps, l, n)
		}
	}
}

// P3.6: a run goes on from where another one ended; a run of one step is a step.
func TestRunBehindRun(t *testing.T) {
	r := rand.New(rand.NewSource(2))
	for range 300 {
		x, m, n := anyExchange(r), r.Intn(30), r.Intn(30)
		var e []int
		for range x.Lost {
			e = append(e, r.Intn(80000000000))
		}
		first, lost, _ := energy.Run(x, e, m)
		second, more, _ := energy.Run(x, first, n)
		both, all, err := energy.Run(x, e, m+n)
		if !slices.Equal(second, both) || lost+more != all || err != api.OK {
			t.Fatalf("%v, %v, %d and %d: %v, %d, at once %v, %d", x, e, m, n, second, lost+more, both, all)
		}
		one, lost, _ := energy.Run(x, e, 1)
		step, more, err := energy.Step(x, e)
		if !slices.Equal(one, step) || lost != more || err != api.OK {
			t.Fatalf("%v, %v: %v, %d, a step %v, %d", x, e, one, lost, step, more)
		}
	}
}

// P3.4: bounds.
func TestBoundOf(t *testing.T) {
	const most = 12000000000000
	for _, c := range []struct {
		name         string
		x            api.EnergyExchange
		total, steps int
		want         api.Range
	}{
		{"the example", pair(), 111, 1, from(98, 111)},
		{"no step", pair(), 111, 0, exactly(111)},
		{"two steps", pair(), 111, 2, from(87, 111)},
		{"nothing", pair(), 0, 5, exactly(0)},
		{"not below 0", pair(), 1, 1, from(0, 1)},
		{"rounded up", alone(1), 1001, 1, from(999, 999)},
		{"rounded up to all", alone(1), 1, 1, exactly(0)},
		{"rounded down", alone(1), 999, 1, from(998, 998)},
		{"all lost", alone(1000), 1000, 1, exactly(0)},
		{"the most", pool(12, 0), most, 1000, from(most-12000, most)},
		{"the least and the greatest loss", exchange(list(300, 100, 200), list(1000, 0, 0), list(1000, 0, 0), list(1000, 0, 0)), 1000, 2, from(485, 810)},
	} {
		r, e := energy.BoundOf(c.x, c.total, c.steps)
		wantRange(t, c.name, r, c.want, e)
	}
	for _, c := range []struct{ total, steps int }{
		{-1, 0}, {most + 1, 0}, {leastInt, 0}, {greatestInt, 0}, {0, -1}, {0, 1001}, {0, leastInt}, {-1, -1},
	} {
		if r, e := energy.BoundOf(pair(), c.total, c.steps); r != (api.Range{}) || e != api.ErrRange {
			t.Errorf("%v: %v, %d", c, r, e)
		}
	}
}

// P3.4: bounds as they follow from the definition. P3.7: what is left lies in the bound.
func TestBounded(t *testing.T) {
	r := rand.New(rand.NewSource(3))
	for range 300 {
		x, steps := anyExchange(r), r.Intn(40)
		e := anyEnergies(r, len(x.Lost))
		bound, err := energy.BoundOf(x, sum(e), steps)
		wantRange(t, "BoundOf", bound, slowBound(x, sum(e), steps), err)
		l, _, _ := energy.Run(x, e, steps)
		if left := sum(l); left < bound.Lo || left > bound.Hi {
			t.Fatalf("%v, %v, %d: %d is left, %v", x, e, steps, left, bound)
		}
	}
}

// P3.4: how many steps it takes.
func TestStepsTo(t *testing.T) {
	for _, c := range []struct {
		name       string
		x          api.EnergyExchange
		e          []int
		millionths int
		want       int
		err        api.Errno
	}{
		{"the example", pair(), list(100, 11), 900000, 2, api.OK},
		{"all of it", pair(), list(100, 11), 1000000, 0, api.OK},
		{"just less", pair(), list(100, 11), 999999, 1, api.OK},
		{"nothing there", exchange(list(0, 0), list(0, 1000), list(0, 1000)), list(0, 0), 0, 0, api.OK},
		{"nothing there, something asked", pair(), list(0, 0), 5, 0, api.OK},
		{"never", exchange(list(0, 0), list(333, 667), list(1000, 0)), list(5, 0), 1, 0, api.ErrNone},
		{"as many as can be", alone(1), list(1000), 0, 1000, api.OK},
		{"as many as can be, two parts at first", alone(1), list(1001), 0, 1000, api.OK},
		{"one too many", alone(1), list(1002), 0, 0, api.ErrNone},
		{"exactly a half", alone(500), list(1000), 500000, 1, api.OK},
		{"a bit less than a half", alone(500), list(1000), 499999, 2, api.OK},
		{"all at once", alone(1000), list(1000000000000), 0, 1, api.OK},
		{"products too great for an int", pool(12, 1), full(12), 999000, 1, api.OK},
		{"products too great for an int, one step more", pool(12, 1), full(12), 998999, 2, api.OK},
		{"the greatest product", pool(12, 0), full(12), 1000000, 0, api.OK},
		{"the greatest product but one", pool(12, 0), full(12), 999999, 0, api.ErrNone},
		{"products that go around to less", pool(12, 1), full(12), 400000, 916, api.OK},
	} {
		if n, e := energy.StepsTo(c.x, c.e, c.millionths); n != c.want || e != c.err {
			t.Errorf("%s: %d, %d, want %d, %d", c.name, n, e, c.want, c.err)
		}
	}
}

// P3.4: how many steps it takes, as it follows from the definition.
func TestStepsSlowly(t *testing.T) {
	r := rand.New(rand.NewSource(4))
	for range 30 {
		x := anyExchange(r)
		e := anyEnergies(r, len(x.Lost))
		if r.Intn(3) == 0 {
			e = full(len(x.Lost))
		}
		for _, millionths := range list(0, r.Intn(1000), r.Intn(1000001), 1000000-r.Intn(2000)) {
			want, err := slowSteps(x, e, millionths), api.OK
			if want < 0 {
				want, err = 0, api.ErrNone
			}
			if n, f := energy.StepsTo(x, e, millionths); n != want || f != err {
				t.Fatalf("%v, %v, %d: %d, %d, want %d, %d", x, e, millionths, n, f, want, err)
			}
		}
	}
}

// P3.4: reciprocal exchanges.
func TestIsReciprocal(t *testing.T) {
	three := exchange(list(0, 0, 0), list(0, 400, 600), list(200, 300, 500), list(300, 500, 200))
	for _, c := range []struct {
		name  string
		x     api.EnergyExchange
		areas []int
		want  bool
	}{
		{"the example", pair(), list(2, 1), true},
		{"the same areas", pair(), list(1, 1), false},
		{"the other way round", pair(), list(1, 2), false},
		{"alone", alone(5), list(1), true},
		{"alone with the greatest area", alone(5), list(1000000000), true},
		{"three", three, list(1, 2, 2), true},
		{"three, the last one is too great", three, list(1, 2, 3), false},
		{"three, the first one is too great", three, list(2, 2, 2), false},
		{"the greatest areas", exchange(list(0, 0), list(1, 999), list(999, 1)), list(1000000000, 1000000000), true},
		{"almost the greatest areas", exchange(list(0, 0), list(1, 999), list(999, 1)), list(1000000000, 999999999), false},
		{"one gives nothing back", exchange(list(0, 0), list(999, 1), list(0, 1000)), list(1, 1000), false},
		{"nothing is given", exchange(list(0, 1), list(1000, 0), list(0, 1000)), list(1, 1000), true},
		{"to one alone", pool(3, 0), list(1, 1, 1), false},
	} {
		if is, e := energy.IsReciprocal(c.x, c.areas); is != c.want || e != api.OK {
			t.Errorf("%s: %v, %d", c.name, is, e)
		}
	}
	for _, c := range []struct {
		areas []int
		want  api.Errno
	}{
		{nil, api.ErrShape},
		{list(0), api.ErrShape},
		{list(0, 0, 0), api.ErrShape},
		{list(0, 1), api.ErrRange},
		{list(2, 0), api.ErrRange},
		{list(2, -1), api.ErrRange},
		{list(1000000001, 1), api.ErrRange},
		{list(1, 1000000001), api.ErrRange},
		{list(leastInt, greatestInt), api.ErrRange},
	} {
		is, e := energy.IsReciprocal(pair(), c.areas)
		wantErrno(t, "IsReciprocal", e, c.want)
		if is {
			t.Errorf("%v: true beside %d", c.areas, e)
		}
	}
}
