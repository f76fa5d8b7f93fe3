package image_test

import (
	"math/big"
	"math/rand"
	"slices"
	"testing"

	"shoebox/api"
	"shoebox/image"
)

// direct is paths by no surfaces, of these squares.
func direct(squares ...int) []api.ImagePath {
	var l []api.ImagePath
	for _, n := range squares {
		l = append(l, api.ImagePath{Square: n})
	}
	return l
}

// P2.3: lengths, rounded down and up, also next to whole ones, where a float is rounded past them.
func TestLengthOf(t *testing.T) {
	for _, c := range []struct {
		square int
		want   api.Range
	}{
		{20000, from(1414213, 1414214)},
		{1, exactly(10000)},
		{2, from(14142, 14143)},
		{4, exactly(20000)},
		{10000, exactly(1000000)},
		{24300000000, from(1558845726, 1558845727)},
		{155884 * 155884, exactly(1558840000)},
		{100000000, exactly(100000000)},
		{100000002, from(100000000, 100000001)},
		{99999998, from(99999998, 99999999)},
		{49*100000000 + 14, from(700000000, 700000001)},
		{49*100000000 - 14, from(699999998, 699999999)},
	} {
		if r, e := image.LengthOf(api.ImagePath{Square: c.square}); r != c.want || e != api.OK {
			t.Errorf("%d: %v, %d, want %v", c.square, r, e, c.want)
		}
	}
	r := rand.New(rand.NewSource(4))
	for range 2000 {
		square := 1 + r.Intn(api.MaxImageSquare)
		n := big.NewInt(int64(square) * 100000000)
		low := new(big.Int).Sqrt(n)
		want := exactly(int(low.Int64()))
		if new(big.Int).Mul(low, low).Cmp(n) != 0 {
			want.Hi++
		}
		if l, e := image.LengthOf(api.ImagePath{Square: square}); l != want || e != api.OK {
			t.Fatalf("%d: %v, %d, want %v", square, l, e, want)
		}
	}
}

// P2.3: surfaces and points do not matter for a length.
func TestLengthOfAny(t *testing.T) {
	p := api.ImagePath{Surfaces: list(-1, -1), Points: points(at(1, 2, 3), over(0, 0, 0, 0)), Square: 20000}
	if r, e := image.LengthOf(p); r != from(1414213, 1414214) || e != api.OK {
		t.Errorf("length: %v, %d", r, e)
	}
}

// P2.3: delays, rounded down and up from the ends of the length.
func TestDelayOf(t *testing.T) {
	for _, c := range []struct {
		square, speed int
		want          api.Range
	}{
		{20000, 34000, from(4159, 4160)},
		{10000, 40000, exactly(2500)},
		{10000, 30000, from(3333, 3334)},
		{90000, 30000, exactly(10000)},
		{1, 40000, exactly(25)},
		{1, 30000, from(33, 34)},
		{24300000000, 30000, from(5196152, 5196153)},
		{24300000000, 40000, from(3897114, 3897115)},
		// the length is 14142 to 14143; 100 times it 1414200 to 1414300
		{2, 40000, from(35, 36)},
		// the length 99999998 to 99999999 is next to 10^8
		{99999998, 40000, from(249999, 250000)},
	} {
		if r, e := image.DelayOf(api.ImagePath{Square: c.square}, c.speed); r != c.want || e != api.OK {
			t.Errorf("%d at %d: %v, %d, want %v", c.square, c.speed, r, e, c.want)
		}
	}
}

// P2.3: delays in samples.
func TestSamplesOf(t *testing.T) {
	for _, c := range []struct {
		square, speed, rate int
		want                api.Range
	}{
		{20000, 34000, 48000, from(199, 200)},
		{10000, 40000, 8000, exactly(20)},
		{10000, 40000, 48000, exactly(120)},
		{10000, 40000, 44100, from(110, 111)},
		{10000, 30000, 192000, from(639, 641)}, // 3333 to 3334 microseconds: 639.9 to 640.1
		{1, 40000, 8000, from(0, 1)},
		{24300000000, 30000, 192000, from(997661, 997662)},
	} {
		r, e := image.SamplesOf(api.ImagePath{Square: c.square}, c.speed, c.rate)
		if r != c.want || e != api.OK {
			t.Errorf("%d at %d, %d: %v, %d, want %v", c.square, c.speed, c.rate, r, e, c.want)
		}
	}
}

// up and down are a product, divided and rounded.
func down(a, b, by int) int { return a * b / by }
func up(a, b, by int) int {
	if n := down(a, b, by); n*by == a*b {
		return n
	}
	return down(a, b, by) + 1
}

// P2.3: delays are rounded from the ends of lengths, and samples from the ends of delays, also where hardly anything is left.
func TestDelayRounding(t *testing.T) {
	r := rand.New(rand.NewSource(11))
	check := func(square, speed, rate int) {
		p := api.ImagePath{Square: square}
		l, _ := image.LengthOf(p)
		want := from(down(l.Lo, 100, speed), up(l.Hi, 100, speed))
		if d, e := image.DelayOf(p, speed); d != want || e != api.OK {
			t.Fatalf("%d at %d: %v, %d, want %v", square, speed, d, e, want)
		}
		want = from(down(want.Lo, rate, 1000000), up(want.Hi, rate, 1000000))
		if s, e := image.SamplesOf(p, speed, rate); s != want || e != api.OK {
			t.Fatalf("%d at %d, %d: %v, %d, want %v", square, speed, rate, s, e, want)
		}
	}
	for range 2000 {
		check(1+r.Intn(api.MaxImageSquare), 30000+r.Intn(10001), 8000+r.Intn(184001))
	}
	narrow := 0
	for k := 1; k < 155884; k++ { // the length is whole, and something leaves 1, or all but 1, when it is divided
		const speed, rate = 39999, 8001
		least, most := down(k, 1000000, speed), up(k, 1000000, speed)
		rest := 1000000 * k % speed
		if rest == 1 || rest == speed-1 || most*rate%1000000 == 1 || least*rate%1000000 == 999999 {
			check(k*k, speed, rate)
			narrow++
		}
	}
	if narrow < 5 {
		t.Errorf("%d narrow cases", narrow)
	}
}

// P2.3: the errors of the path, the speed and the rate, in this order.
func TestDelayErrors(t *testing.T) {
	for _, c := range pathErrors {
		l, e := image.LengthOf(c.p)
		wantErrno(t, "LengthOf", e, c.want)
		for _, speed := range list(29999, 30000, 40000, 40001, 0, -30000, leastInt) {
			want := c.want
			if want == api.OK && (speed < 30000 || speed > 40000) {
				want = api.ErrRange
			}
			d, e := image.DelayOf(c.p, speed)
			wantErrno(t, "DelayOf", e, want)
			if c.want != api.OK && (l != api.Range{}) || want != api.OK && (d != api.Range{}) {
				t.Errorf("%v at %d: %v, %v", c.p, speed, l, d)
			}
			for _, rate := range list(7999, 8000, 192000, 192001, 0, -8000) {
				want := want
				if want == api.OK && (rate < 8000 || rate > 192000) {
					want = api.ErrRange
				}
				s, e := image.SamplesOf(c.p, speed, rate)
				wantErrno(t, "SamplesOf", e, want)
				if want != api.OK && (s != api.Range{}) {
					t.Errorf("%v at %d, %d: %v", c.p, speed, rate, s)
				}
			}
		}
	}
}

// P2.3: by how much the second path of a list comes later.
func TestGapOf(t *testing.T) {
	for _, c := range []struct {
		l     []api.ImagePath
		speed int
		want  api.Range
	}{
		{direct(10000, 40000), 40000, exactly(2500)},
		{direct(10000, 40000, 90000), 40000, exactly(2500)},
		{direct(10000, 40000), 30000, from(3332, 3334)}, // 3333 to 3334, 6666 to 6667
		{direct(20000, 50000), 34000, from(2416, 2418)}, // 4159 to 4160, 6576 to 6577
		{direct(10000, 10000), 40000, exactly(0)},
		{direct(20000, 20000), 34000, from(0, 1)},
		{direct(20000, 20001), 34000, from(0, 1)},
		{direct(1, 24300000000), 30000, from(5196118, 5196120)},
	} {
		if r, e := image.GapOf(c.l, c.speed); r != c.want || e != api.OK {
			t.Errorf("%v at %d: %v, %d, want %v", c.l, c.speed, r, e, c.want)
		}
	}
	for _, l := range [][]api.ImagePath{nil, {}, direct(10000)} {
		if r, e := image.GapOf(l, 40000); r != (api.Range{}) || e != api.ErrShape {
			t.Errorf("%d paths: %v, %d", len(l), r, e)
		}
		_, e := image.GapOf(l, 40001)
		wantErrno(t, "the speed ahead of the count", e, api.ErrRange)
	}
}

// P2.3: how many paths have arrived, surely or perhaps.
func TestArrived(t *testing.T) {
	few := direct(10000, 20000, 20000, 40000) // at 34000: 2941 to 2942, 4159 to 4160 twice, 5882 to 5883
	for _, c := range []struct {
		l            []api.ImagePath
		speed, micro int
		want         [2]int
	}{
		{direct(10000, 40000), 40000, 2499, [2]int{0, 0}},
		{direct(10000, 40000), 40000, 2500, [2]int{1, 1}},
		{few, 34000, 0, [2]int{0, 0}},
		{few, 34000, 2940, [2]int{0, 0}},
		{few, 34000, 2941, [2]int{0, 1}},
		{few, 34000, 2942, [2]int{1, 1}},
		{few, 34000, 4159, [2]int{1, 3}},
		{few, 34000, 4160, [2]int{3, 3}},
		{few, 34000, 5882, [2]int{3, 4}},
		{few, 34000, 5883, [2]int{4, 4}},
		{few, 34000, 10000000, [2]int{4, 4}},
		{nil, 30000, 5, [2]int{0, 0}},
		{slices.Repeat(direct(24300000000), 200), 30000, 10000000, [2]int{200, 200}},
	} {
		if n, e := image.Arrived(c.l, c.speed, c.micro); n != c.want || e != api.OK {
			t.Errorf("%d paths at %d, %d: %v, %d, want %v", len(c.l), c.speed, c.micro, n, e, c.want)
		}
	}
	for _, micro := range list(-1, 10000001, leastInt) {
		if n, e := image.Arrived(few, 34000, micro); n != [2]int{} || e != api.ErrRange {
			t.Errorf("at %d: %v, %d", micro, n, e)
		}
	}
}

// P2.3: the errors of lists of paths, ahead of those of the speed.
func TestListErrors(t *testing.T) {
	good := api.ImagePath{Square: 5}
	two := func(p api.ImagePath) []api.ImagePath { return []api.ImagePath{good, p} }
	shapeless := api.ImagePath{Surfaces: list(1), Square: 3}
	for _, c := range []struct {
		name string
		l    []api.ImagePath
		want api.Errno
	}{
		{"200", slices.Repeat(direct(5), 200), api.OK},
		{"201", slices.Repeat(direct(5), 201), api.ErrLarge},
		{"201 ahead of the paths", slices.Repeat(direct(0), 201), api.ErrLarge},
		{"ascending", direct(5, 5, 6), api.OK},
		{"less than the one before", direct(5, 4), api.ErrOrder},
		{"less, far behind", direct(1, 2, 3, 4, 3), api.ErrOrder},
		{"a path ahead of the order", two(shapeless), api.ErrShape},
		{"a path's square ahead of the order", direct(5, 0), api.ErrRange},
		{"the first path", []api.ImagePath{shapeless, {}}, api.ErrShape},
		{"the order ahead of a later path", append(direct(5, 4), shapeless), api.ErrOrder},
		{"too many surfaces", two(api.ImagePath{Surfaces: list(1, 2, 3, 4, 5), Points: make([]api.HallPoint, 5)}), api.ErrLarge},
		{"a square too great", direct(5, api.MaxImageSquare+1), api.ErrRange},
		{"the third one", direct(5, 6, 0), api.ErrRange},
	} {
		for _, speed := range list(34000, 29999, 40001) {
			want := c.want
			if want == api.OK && speed != 34000 {
				want = api.ErrRange
			}
			r, e := image.GapOf(c.l, speed)
			wantErrno(t, c.name+": GapOf", e, want)
			n, e := image.Arrived(c.l, speed, 10)
			wantErrno(t, c.name+": Arrived", e, want)
			_, e = image.Arrived(c.l, speed, -1)
			if want == api.OK {
				want = api.ErrRange
			}
			wantErrno(t, c.name+": Arrived at -1", e, want)
			if c.want != api.OK && (r != api.Range{} || n != [2]int{}) {
				t.Errorf("%s: %v, %v", c.name, r, n)
			}
		}
	}
}
