package figure_test

import (
	"math"
	"math/big"
	"math/rand"
	"testing"

	"shoebox/api"
	"shoebox/figure"
)

// P5.4: the levels of the examples, of the limits and beyond them.
func TestLevelOf(t *testing.T) {
	for _, c := range []struct {
		num, den int
		want     api.Range
		err      api.Errno
	}{
		{10, 1, span(10, 10), api.OK},
		{1, 10, span(-10, -10), api.OK},
		{2, 1, span(3, 4), api.OK},
		{1, 2, span(-4, -3), api.OK},
		{7, 7, span(0, 0), api.OK},
		{mostEnergy, mostEnergy, span(0, 0), api.OK},
		{100, 1, span(20, 20), api.OK},
		{101, 1, span(20, 21), api.OK},
		{99, 1, span(19, 20), api.OK},
		{mostPart, 1, span(90, 90), api.OK},
		{1, mostPart, span(-90, -90), api.OK},
		{mostEnergy, 10000, span(90, 90), api.OK},
		{10000, mostEnergy, span(-90, -90), api.OK},
		{mostEnergy - 1, 10000, span(89, 90), api.OK},
		{10001, mostEnergy, span(-90, -89), api.OK},
		{mostPart + 1, 1, span(0, 0), api.ErrLarge},
		{1, mostPart + 1, span(0, 0), api.ErrLarge},
		{mostEnergy, 9999, span(0, 0), api.ErrLarge},
		{9999, mostEnergy, span(0, 0), api.ErrLarge},
		{mostEnergy, 1, span(0, 0), api.ErrLarge},
		{1, mostEnergy, span(0, 0), api.ErrLarge},
		{0, 1, span(0, 0), api.ErrRange},
		{1, 0, span(0, 0), api.ErrRange},
		{-1, 1, span(0, 0), api.ErrRange},
		{1, -1, span(0, 0), api.ErrRange},
		{mostEnergy + 1, mostEnergy, span(0, 0), api.ErrRange},
		{mostEnergy, mostEnergy + 1, span(0, 0), api.ErrRange},
		{leastInt, leastInt, span(0, 0), api.ErrRange},
		{greatestInt, greatestInt, span(0, 0), api.ErrRange},
		{1, greatestInt, span(0, 0), api.ErrRange},
		{greatestInt, 1, span(0, 0), api.ErrRange},
		{1, leastInt, span(0, 0), api.ErrRange},
	} {
		r, e := figure.LevelOf(c.num, c.den)
		wantSame(t, "LevelOf", r, e, c.want, c.err)
	}
}

// P5.4: the powers of all tenths, as the chapter tells them: the level of such a number itself is not told exactly.
func TestPowersOfTenths(t *testing.T) {
	powers := list(1258925411, 1584893192, 1995262314, 2511886431, 3162277660, 3981071705, 5011872336, 6309573444, 7943282347)
	for i, n := range powers {
		level := i + 1
		if n != slowTenth(level) {
			t.Errorf("the power of %d is %d, want %d", level, n, slowTenth(level))
		}
		for more, want := range map[int]api.Range{-1: span(level-1, level), 0: span(level-1, level), 1: span(level, level+1), 2: span(level, level+1)} {
			r, e := figure.LevelOf(n+more, mostPart)
			wantSame(t, "LevelOf", r, e, want, api.OK)
		}
	}
}

// around is a pair whose quotient is as near as can be to what the power of a level is at least.
func around(level, more int, tenths []int) (num, den int) {
	tenth := (level + 100) % 10
	num, den = tenths[tenth]+more, mostPart
	for whole := (level - tenth) / 10; whole != 0; {
		switch {
		case whole > 0 && den%10 == 0:
			den, whole = den/10, whole-1
		case whole > 0:
			num, whole = num*10, whole-1
		case num <= mostEnergy/10 && den > mostEnergy/10:
			return num, den
		default:
			den, whole = den*10, whole+1
		}
	}
	return num, den
}

// P5.4: levels as they follow from the definition.
func TestLevelOfSlowly(t *testing.T) {
	r := rand.New(rand.NewSource(9))
	powers := slowPowers()
	var tenths []int
	for k := range 10 {
		tenths = append(tenths, slowTenth(k))
	}
	for range 2000 {
		num, den := 1+r.Intn(anyOf(r, 10, 1000, million, mostEnergy)), 1+r.Intn(anyOf(r, 10, 1000, million, mostEnergy))
		if r.Intn(2) == 0 {
			num, den = around(r.Intn(185)-92, anyOf(r, -1, 0, 1, 2), tenths)
		}
		got, e := figure.LevelOf(num, den)
		want, wrong := slowLevel(powers, whole(num), whole(den))
		wantSame(t, "LevelOf", got, e, want, wrong)
		if e == api.OK {
			wantTrue(t, num, den, got)
		}
	}
}

// wantTrue tests that a level is a true one, and that it is narrow.
func wantTrue(t *testing.T, num, den int, level api.Range) {
	t.Helper()
	ratio, _ := new(big.Rat).SetFrac64(int64(num), int64(den)).Float64()
	if true := 10 * math.Log10(ratio); true < float64(level.Lo)-1e-8 || true > float64(level.Hi)+1e-8 || level.Hi-level.Lo > 2 {
		t.Errorf("%d and %d: %v, want %v", num, den, level, true)
	}
}

// P5.4: the clarity of the examples, and its errors.
func TestClarity(t *testing.T) {
	for _, c := range []struct {
		name string
		a    api.FigureAsk
		time int
		want api.Range
		err  api.Errno
	}{
		{"the example", asked(five(), 0, 0), 125, span(4, 5), api.OK},
		{"the example a little later", asked(five(), 0, 0), 126, span(12, 13), api.OK},
		{"the example with noise", asked(five(), 1, 0), 125, span(0, 10), api.OK},
		{"the example with a tail", asked(five(), 0, 43), 125, span(0, 5), api.OK},
		{"the last sample that is heard", asked(five(), 0, 0), 375, span(19, 20), api.OK},
		{"nothing is ahead of the beginning", asked(five(), 0, 0), 0, span(0, 0), api.ErrZero},
		{"nothing is late", asked(five(), 0, 0), 500, span(0, 0), api.ErrZero},
		{"nothing is surely late", asked(five(), 2, 900), 250, span(0, 0), api.ErrZero},
		{"nothing is early", asked(response(8000, 0, 5), 0, 0), 125, span(0, 0), api.ErrZero},
		{"behind the last sample", asked(five(), 0, 0), 501, span(0, 0), api.ErrNone},
		{"behind the last sample of silence", asked(response(8000, 0), 0, 0), 1, span(0, 0), api.ErrNone},
		{"behind the last sample with a tail", asked(five(), 0, 50), 80000, span(0, 0), api.ErrNone},
		{"the last time", asked(five(), 0, 0), million, span(0, 0), api.ErrNone},
		{"as loud as can be", asked(response(8000, 10000, 10000, 10000, 10000, 10000, 10000, 10000, 10000, 10000, 10000, 1), 0, 0), 1250, span(90, 90), api.OK},
		{"louder", asked(response(8000, 32767, 1), 0, 0), 125, span(0, 0), api.ErrLarge},
		{"softer", asked(response(8000, 1, 32767), 0, 0), 125, span(0, 0), api.ErrLarge},
		{"louder with noise", asked(response(8000, 32000, 11), 10, 0), 125, span(0, 0), api.ErrLarge},
		{"softer with a tail", asked(response(8000, 1, 1), 0, mostPart), 125, span(0, 0), api.ErrLarge},
		{"just as soft with a tail", asked(response(8000, 1, 1), 0, mostPart-1), 125, span(-90, 0), api.OK},
	} {
		r, e := figure.Clarity(c.a, c.time)
		wantSame(t, c.name, r, e, c.want, c.err)
	}
}

// P5.4: clarity as it follows from the definition.
func TestClaritySlowly(t *testing.T) {
	r := rand.New(rand.NewSource(10))
	powers, known := slowPowers(), 0
	for range 1200 {
		a := anyAsk(r)
		time := anyTime(r, a.Response)
		got, e := figure.Clarity(a, time)
		want, wrong := slowClarity(powers, a, time)
		wantSame(t, "Clarity", got, e, want, wrong)
		if e == api.OK {
			known++
		}
	}
	if known < 100 {
		t.Errorf("only %d are known", known)
	}
}
