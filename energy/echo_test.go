package energy_test

import (
	"math/rand"
	"slices"
	"testing"

	"shoebox/api"
	"shoebox/energy"
)

// echoes is a list of echoes: each one from two ends of its delay and two of its energy.
func echoes(numbers ...int) []api.EnergyEcho {
	var l []api.EnergyEcho
	for n := range slices.Chunk(numbers, 4) {
		l = append(l, echo(from(n[0], n[1]), from(n[2], n[3])))
	}
	return l
}

// P3.2: the errors of echoes, with the number of the echo.
func TestCheckEchoes(t *testing.T) {
	right := echo(from(10, 11), from(5, 6))
	for _, c := range []struct {
		name   string
		l      []api.EnergyEcho
		number int
		want   api.Errno
	}{
		{"nothing", nil, 0, api.OK},
		{"the least numbers", echoes(0, 0, 0, 0), 0, api.OK},
		{"the greatest numbers", echoes(10000000, 10000000, 1000000000000, 1000000000000), 0, api.OK},
		{"as many as can be", slices.Repeat([]api.EnergyEcho{right}, 500), 0, api.OK},
		{"too many", slices.Repeat([]api.EnergyEcho{right}, 501), 0, api.ErrLarge},
		{"too many wrong ones", append(slices.Repeat([]api.EnergyEcho{right}, 500), echo(from(-1, 0), from(0, 0))), 0, api.ErrLarge},
		{"the least delay below 0", echoes(0, 0, 0, 0, -1, 0, 0, 0), 1, api.ErrRange},
		{"the least delay too great", echoes(10000001, 10000002, 0, 0), 0, api.ErrRange},
		{"the greatest delay below 0", echoes(0, -1, 0, 0), 0, api.ErrRange},
		{"the greatest delay too great", echoes(0, 10000001, 0, 0), 0, api.ErrRange},
		{"both delays too far", echoes(leastInt, greatestInt, 0, 0), 0, api.ErrRange},
		{"delays in the wrong order", echoes(12, 11, 0, 0), 0, api.ErrOrder},
		{"delays ahead of energies", echoes(12, 11, -1, 0), 0, api.ErrOrder},
		{"the least energy below 0", echoes(0, 0, -1, 0), 0, api.ErrRange},
		{"the least energy too great", echoes(0, 0, 1000000000001, 1000000000002), 0, api.ErrRange},
		{"the greatest energy below 0", echoes(0, 0, 0, leastInt), 0, api.ErrRange},
		{"the greatest energy too great", echoes(0, 0, 0, 1000000000001), 0, api.ErrRange},
		{"energies in the wrong order", echoes(0, 0, 0, 0, 0, 0, 7, 6), 1, api.ErrOrder},
		{"earlier than the one before", echoes(10, 11, 5, 6, 9, 12, 5, 6), 1, api.ErrOrder},
		{"energies ahead of the one before", echoes(10, 11, 5, 6, 9, 12, -1, 6), 1, api.ErrRange},
		{"as early as the one before", echoes(10, 15, 5, 6, 10, 11, 5, 6), 0, api.OK},
		{"earlier than one further before", echoes(10, 11, 0, 0, 12, 12, 0, 0, 11, 11, 0, 0), 2, api.ErrOrder},
		{"the first wrong one", echoes(10, 11, 0, 0, 9, 9, 0, 0, -1, 0, 0, 0), 1, api.ErrOrder},
		{"surfaces of any kind", []api.EnergyEcho{{Surfaces: list(-1, -1, 99, 7, 7, 7), Delay: exactly(1), Energy: exactly(1)}}, 0, api.OK},
	} {
		if n, e := energy.CheckEchoes(c.l); n != c.number || e != c.want {
			t.Errorf("%s: %d, %d, want %d, %d", c.name, n, e, c.number, c.want)
		}
		r, e := energy.UpTo(c.l, 1)
		wantErrno(t, "UpTo, "+c.name, e, c.want)
		b, f := energy.BurstOf(c.l, 1)
		if c.want != api.OK || len(c.l) > 0 {
			wantErrno(t, "BurstOf, "+c.name, f, c.want)
		}
		if c.want != api.OK && (r != api.Range{} || b != api.EnergyBurst{}) {
			t.Errorf("%s: %v, %v", c.name, r, b)
		}
	}
}

// P3.2: the errors of the echoes, those of the time or the window, and that there are none.
func TestTimeErrors(t *testing.T) {
	right, bad := echoes(0, 0, 0, 0), echoes(1, 0, 0, 0)
	for _, c := range []struct {
		l             []api.EnergyEcho
		micro         int
		upTo, burstOf api.Errno
	}{
		{right, 0, api.OK, api.OK},
		{right, 10000000, api.OK, api.OK},
		{right, -1, api.ErrRange, api.ErrRange},
		{right, 10000001, api.ErrRange, api.ErrRange},
		{right, leastInt, api.ErrRange, api.ErrRange},
		{right, greatestInt, api.ErrRange, api.ErrRange},
		{bad, -1, api.ErrOrder, api.ErrOrder},
		{nil, 5, api.OK, api.ErrNone},
		{[]api.EnergyEcho{}, 5, api.OK, api.ErrNone},
		{nil, -1, api.ErrRange, api.ErrRange},
	} {
		r, e := energy.UpTo(c.l, c.micro)
		wantErrno(t, "UpTo", e, c.upTo)
		b, f := energy.BurstOf(c.l, c.micro)
		wantErrno(t, "BurstOf", f, c.burstOf)
		if r != (api.Range{}) || f != api.OK && b != (api.EnergyBurst{}) {
			t.Errorf("%v, %d: %v, %v", c.l, c.micro, r, b)
		}
	}
}

// P3.2: what has arrived.
func TestUpTo(t *testing.T) {
	two := echoes(10, 11, 5, 6, 20, 22, 3, 3)
	crossed := echoes(10, 50, 5, 6, 20, 30, 100, 200, 20, 20, 1000, 1000)
	most := slices.Repeat(echoes(0, 10000000, 1000000000000, 1000000000000), 500)
	for _, c := range []struct {
		l     []api.EnergyEcho
		micro int
		want  api.Range
	}{
		{nil, 10, from(0, 0)},
		{two, 0, from(0, 0)},
		{two, 9, from(0, 0)},
		{two, 10, from(0, 6)},
		{two, 11, from(5, 6)},
		{two, 19, from(5, 6)},
		{two, 20, from(5, 9)},
		{two, 21, from(5, 9)},
		{two, 22, from(8, 9)},
		{two, 10000000, from(8, 9)},
		{crossed, 19, from(0, 6)},
		{crossed, 20, from(1000, 1206)},
		{crossed, 30, from(1100, 1206)},
		{crossed, 49, from(1100, 1206)},
		{crossed, 50, from(1105, 1206)},
		{most, 0, from(0, 500000000000000)},
		{most, 9999999, from(0, 500000000000000)},
		{most, 10000000, exactly(500000000000000)},
	} {
		r, e := energy.UpTo(c.l, c.micro)
		wantRange(t, "UpTo", r, c.want, e)
	}
}

// P3.2: bursts.
func TestBurstOf(t *testing.T) {
	two := echoes(10, 11, 5, 6, 20, 22, 3, 3)
	for _, c := range []struct {
		name   string
		l      []api.EnergyEcho
		window int
		want   api.EnergyBurst
	}{
		{"the first one alone", two, 10, api.EnergyBurst{First: 0, Count: 1, Energy: 5}},
		{"almost both", two, 11, api.EnergyBurst{First: 0, Count: 1, Energy: 5}},
		{"both", two, 12, api.EnergyBurst{First: 0, Count: 2, Energy: 8}},
		{"not even itself", two, 0, api.EnergyBurst{}},
		{"the greatest window", two, 10000000, api.EnergyBurst{First: 0, Count: 2, Energy: 8}},
		{"the second one alone", echoes(10, 11, 5, 6, 20, 22, 6, 6), 5, api.EnergyBurst{First: 1, Count: 1, Energy: 6}},
		{"of the same energy the first one", echoes(10, 11, 5, 6, 20, 21, 5, 9), 5, api.EnergyBurst{First: 0, Count: 1, Energy: 5}},
		{"the same energy with fewer", echoes(10, 11, 5, 6, 12, 13, 0, 0, 30, 31, 5, 5), 5, api.EnergyBurst{First: 0, Count: 2, Energy: 5}},
		{"no energy, but echoes", echoes(10, 11, 0, 6, 12, 13, 0, 9), 5, api.EnergyBurst{First: 0, Count: 2, Energy: 0}},
		{"least energies count", echoes(10, 11, 1, 100, 50, 50, 2, 2), 5, api.EnergyBurst{First: 1, Count: 1, Energy: 2}},
		{"one in between comes too late", echoes(10, 11, 5, 6, 12, 90, 7, 7, 14, 15, 6, 6), 5, api.EnergyBurst{First: 0, Count: 2, Energy: 11}},
		{"all but the first itself", echoes(10, 90, 5, 6, 12, 13, 7, 7, 14, 15, 6, 6), 5, api.EnergyBurst{First: 0, Count: 2, Energy: 13}},
		{"not the ones before", echoes(10, 10, 9, 9, 17, 17, 7, 7, 18, 18, 6, 6), 5, api.EnergyBurst{First: 1, Count: 2, Energy: 13}},
		{"at one time", echoes(7, 7, 1, 1, 7, 7, 2, 2), 0, api.EnergyBurst{First: 0, Count: 2, Energy: 3}},
		{"as late as can be", echoes(0, 10000000, 1, 1), 10000000, api.EnergyBurst{First: 0, Count: 1, Energy: 1}},
	} {
		if b, e := energy.BurstOf(c.l, c.window); b != c.want || e != api.OK {
			t.Errorf("%s: %v, %d, want %v", c.name, b, e, c.want)
		}
	}
}

// anyEchoes is echoes with small numbers, so that many of them are the same.
func anyEchoes(r *rand.Rand) []api.EnergyEcho {
	var l []api.EnergyEcho
	late := 0
	for range 1 + r.Intn(12) {
		late += r.Intn(4)
		power := r.Intn(4)
		l = append(l, echo(from(late, late+r.Intn(6)), from(power, power+r.Intn(3))))
	}
	return l
}

// P3.2: bursts as they follow from the definition: none has more energy, and none ahead as much.
func TestBurstsSlowly(t *testing.T) {
	r := rand.New(rand.NewSource(1))
	for range 2000 {
		l, window := anyEchoes(r), r.Intn(10)
		var best api.EnergyBurst
		for i := len(l) - 1; i >= 0; i-- {
			b := api.EnergyBurst{First: i}
			for k := i; k < len(l); k++ {
				if l[k].Delay.Hi-l[i].Delay.Lo <= window {
					b = api.EnergyBurst{First: i, Count: b.Count + 1, Energy: b.Energy + l[k].Energy.Lo}
				}
			}
			if b.Energy >= best.Energy {
				best = b
			}
		}
		if b, e := energy.BurstOf(l, window); b != best || e != api.OK {
			t.Fatalf("%v, %d: %v, %d, want %v", l, window, b, e, best)
		}
	}
}

// P3.8: the later the time, the more has arrived; at the greatest delay all least energies have.
func TestArrived(t *testing.T) {
	r := rand.New(rand.NewSource(2))
	for range 200 {
		l := anyEchoes(r)
		var before, all api.Range
		latest := 0
		for _, x := range l {
			latest = max(latest, x.Delay.Hi)
			all = from(all.Lo+x.Energy.Lo, all.Hi+x.Energy.Hi)
		}
		for micro := range latest + 2 {
			got, e := energy.UpTo(l, micro)
			if got.Lo < before.Lo || got.Hi < before.Hi || got.Lo > got.Hi || e != api.OK {
				t.Fatalf("%v: at %d %v, before %v, %d", l, micro, got, before, e)
			}
			before = got
			if micro >= latest && got != all {
				t.Fatalf("%v: at %d %v, want %v", l, micro, got, all)
			}
		}
	}
}
