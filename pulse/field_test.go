package pulse_test

import (
	"math/rand"
	"slices"
	"testing"

	"shoebox/api"
	"shoebox/pulse"
)

const greatPrime = 2147483647

// wrongFields is fields with their first error.
var wrongFields = []struct {
	f    api.PulseField
	want api.Errno
}{
	{field(1, 1, 1), api.ErrRange},
	{field(0, 1, 1), api.ErrRange},
	{field(-7, 2, 3), api.ErrRange},
	{field(greatPrime+1, 1, 1), api.ErrRange},
	{field(leastInt, 2, 3), api.ErrRange},
	{field(greatestInt, 2, 3), api.ErrRange},
	{field(7, 2, 0), api.ErrRange},
	{field(7, 2, -3), api.ErrRange},
	{field(7, 2, leastInt), api.ErrRange},
	{field(7, 2, greatestInt), api.ErrRange},
	{field(12289, 2, 1025), api.ErrRange},
	{field(7, 0, 3), api.ErrRange},
	{field(7, 7, 3), api.ErrRange},
	{field(7, 9, 3), api.ErrRange},
	{field(7, -5, 3), api.ErrRange},
	{field(7, leastInt, 3), api.ErrRange},
	{field(7, greatestInt, 3), api.ErrRange},
	{field(9, 9, 4), api.ErrRange},
	{field(9, 2, 2000), api.ErrRange},
	{field(2, 2, 1), api.ErrRange},
	{field(9, 2, 6), api.ErrKind},
	{field(4, 3, 2), api.ErrKind},
	{field(15, 2, 4), api.ErrKind},
	{field(46337*46337, 1, 1), api.ErrKind},
	{field(greatPrime-1, 1, 1), api.ErrKind},
	{field(9, 2, 3), api.ErrKind},
	{field(7, 2, 4), api.ErrClash},
	{field(7, 1, 7), api.ErrClash},
	{field(2, 1, 2), api.ErrClash},
	{field(greatPrime, 1, 4), api.ErrClash},
	{field(7, 6, 3), api.ErrProof},
	{field(7, 1, 3), api.ErrProof},
	{field(7, 3, 3), api.ErrProof},
	{field(7, 2, 6), api.ErrProof},
	{field(7, 2, 1), api.ErrProof},
	{field(7, 6, 1), api.ErrProof},
	{field(greatPrime, greatPrime-1, 1), api.ErrProof},
	{field(greatPrime, 7, 2), api.ErrProof},
}

// rightFields is some fields of all sizes.
var rightFields = []api.PulseField{
	field(2, 1, 1), field(3, 1, 1), field(3, 2, 2), field(7, 2, 3), field(7, 4, 3), field(7, 3, 6), field(13, 3, 3),
	field(12289, 49, 1024), field(greatPrime, 1, 1), field(greatPrime, greatPrime-1, 2), field(greatPrime, 1513477735, 3),
}

// P4.5: the errors of fields.
func TestCheckField(t *testing.T) {
	for _, c := range wrongFields {
		if e := pulse.CheckField(c.f); e != c.want {
			t.Errorf("%v: error %d, want %d", c.f, e, c.want)
		}
	}
	for _, f := range rightFields {
		if e := pulse.CheckField(f); e != api.OK {
			t.Errorf("%v: error %d", f, e)
		}
	}
}

// P4.5: all small fields, right or wrong.
func TestCheckFieldOfAll(t *testing.T) {
	for prime := -1; prime < 50; prime++ {
		for root := -1; root <= prime+1; root++ {
			for period := -1; period <= prime+1; period++ {
				f := field(prime, root, period)
				if e := pulse.CheckField(f); e != slowCheckField(f) {
					t.Fatalf("%v: error %d, want %d", f, e, slowCheckField(f))
				}
			}
		}
	}
}

// P4.5: the fields of periods.
func TestFieldOf(t *testing.T) {
	for _, c := range []struct {
		period, least int
		want          api.PulseField
		err           api.Errno
	}{
		{3, 2, field(7, 4, 3), api.OK},
		{3, 7, field(7, 4, 3), api.OK},
		{3, 8, field(13, 3, 3), api.OK},
		{1, 2, field(2, 1, 1), api.OK},
		{2, 2, field(3, 2, 2), api.OK},
		{1, 8, field(11, 1, 1), api.OK},
		{1, greatPrime, field(greatPrime, 1, 1), api.OK},
		{2, greatPrime, field(greatPrime, greatPrime-1, 2), api.OK},
		{3, greatPrime, field(greatPrime, 1513477735, 3), api.OK},
		{1, greatPrime - 1, field(greatPrime, 1, 1), api.OK},
		{4, greatPrime, api.PulseField{}, api.ErrNone},
		{1024, greatPrime, api.PulseField{}, api.ErrNone},
		{1024, greatPrime - 1022, api.PulseField{}, api.ErrNone},
		{0, 2, api.PulseField{}, api.ErrRange},
		{-1, 2, api.PulseField{}, api.ErrRange},
		{1025, 2, api.PulseField{}, api.ErrRange},
		{leastInt, 2, api.PulseField{}, api.ErrRange},
		{greatestInt, 2, api.PulseField{}, api.ErrRange},
		{3, 1, api.PulseField{}, api.ErrRange},
		{3, 0, api.PulseField{}, api.ErrRange},
		{3, leastInt, api.PulseField{}, api.ErrRange},
		{3, greatPrime + 1, api.PulseField{}, api.ErrRange},
		{3, greatestInt, api.PulseField{}, api.ErrRange},
		{1, greatPrime + 1, api.PulseField{}, api.ErrRange},
	} {
		if f, e := pulse.FieldOf(c.period, c.least); f != c.want || e != c.err {
			t.Errorf("%d from %d: %v, error %d, want %v, %d", c.period, c.least, f, e, c.want, c.err)
		}
	}
}

// P4.5: the fields of periods as they follow from the definition.
func TestFieldOfSlowly(t *testing.T) {
	r := rand.New(rand.NewSource(7))
	for period := 1; period <= 60; period++ {
		for _, least := range list(2, 2+r.Intn(50), 2+r.Intn(5000), period+1) {
			f, e := pulse.FieldOf(period, max(2, least))
			if want := slowFieldOf(period, max(2, least)); f != want || e != api.OK {
				t.Errorf("%d from %d: %v, error %d, want %v", period, least, f, e, want)
			}
		}
	}
	for _, period := range list(255, 720, 1023, 1024) {
		f, e := pulse.FieldOf(period, 2)
		if want := slowFieldOf(period, 2); f != want || e != api.OK {
			t.Errorf("%d: %v, error %d, want %v", period, f, e, want)
		}
	}
}

// P4.5: what FieldOf returns is a field, with large primes too, and none is left out up to the greatest one.
func TestFieldOfGreatPrimes(t *testing.T) {
	r := rand.New(rand.NewSource(8))
	for range 60 {
		period, least := 1+r.Intn(1024), greatPrime-r.Intn(30000)
		n := least
		for n <= greatPrime && ((n-1)%period != 0 || !slowIsPrime(n)) {
			n++
		}
		f, e := pulse.FieldOf(period, least)
		if n > greatPrime {
			if f != (api.PulseField{}) || e != api.ErrNone {
				t.Errorf("%d from %d: %v, error %d, want none", period, least, f, e)
			}
			continue
		}
		if f.Prime != n || f.Period != period || e != api.OK || pulse.CheckField(f) != api.OK {
			t.Errorf("%d from %d: %v, error %d, want the prime %d", period, least, f, e, n)
		}
	}
}

// P4.5: the example.
func TestTransformedOfTheExample(t *testing.T) {
	f := field(7, 2, 3)
	l, e := pulse.Transformed(list(0, 1, 0), f)
	wantInts(t, "transformed", l, e, list(1, 2, 4))
	l, e = pulse.Back(list(1, 2, 4), f)
	wantInts(t, "back", l, e, list(0, 1, 0))
}

// anyInts is numbers of both signs, at most so great in size.
func anyInts(r *rand.Rand, count, size int) []int {
	l := make([]int, count)
	for i := range l {
		l[i] = list(r.Intn(2*size+1)-size, size, -size, 0)[r.Intn(4)]
	}
	return l
}

// someFields is the right fields, and others with primes of all sizes.
func someFields(r *rand.Rand) []api.PulseField {
	l := rightFields
	for range 25 {
		f, e := pulse.FieldOf(1+r.Intn(40), list(2+r.Intn(100), 2+r.Intn(1000000), 2147000000-r.Intn(1000000))[r.Intn(3)])
		if e == api.OK {
			l = append(l, f)
		}
	}
	return l
}

// P4.5: transforms as they follow from the definition, of numbers of any size.
func TestTransformedSlowly(t *testing.T) {
	r := rand.New(rand.NewSource(9))
	for _, f := range someFields(r) {
		if f.Period > 100 {
			continue
		}
		for _, size := range list(1, 1000, greatPrime) {
			l := anyInts(r, f.Period, size)
			m, e := pulse.Transformed(l, f)
			wantInts(t, "transformed", m, e, slowTransformed(l, f))
			m, e = pulse.Back(l, f)
			wantInts(t, "back", m, e, slowBack(l, f))
		}
	}
}

// P4.5: the errors of transforms, and their order.
func TestTransformErrors(t *testing.T) {
	right, wrong := field(7, 2, 3), field(9, 2, 3)
	long := field(12289, 49, 1024)
	for _, c := range []struct {
		name string
		l    []int
		f    api.PulseField
		want api.Errno
	}{
		{"right", list(1, 2, 3), right, api.OK},
		{"the greatest and the least number", list(greatPrime, -greatPrime, 0), right, api.OK},
		{"as many as can be", make([]int, 1024), long, api.OK},
		{"too many", make([]int, 1025), long, api.ErrLarge},
		{"too many for a wrong field", make([]int, 1025), wrong, api.ErrLarge},
		{"too many ahead of numbers", slices.Repeat([]int{leastInt}, 1025), right, api.ErrLarge},
		{"too great", list(1, 2, greatPrime+1), right, api.ErrRange},
		{"too far below", list(-greatPrime-1, 2, 3), right, api.ErrRange},
		{"the least of all", list(1, leastInt, 3), right, api.ErrRange},
		{"the greatest of all", list(1, greatestInt, 3), right, api.ErrRange},
		{"numbers ahead of the field", list(1, 2, greatPrime+1), wrong, api.ErrRange},
		{"numbers ahead of how many", list(greatPrime + 1), right, api.ErrRange},
		{"the field", list(1, 2, 3), wrong, api.ErrKind},
		{"the field ahead of how many", nil, wrong, api.ErrKind},
		{"none", nil, right, api.ErrClash},
		{"none, empty", list(), right, api.ErrClash},
		{"too few", list(1, 2), right, api.ErrClash},
		{"too many for the period", list(1, 2, 3, 4), right, api.ErrClash},
		{"none of period 1", nil, field(2, 1, 1), api.ErrClash},
		{"one of period 1", list(3), field(2, 1, 1), api.OK},
	} {
		testTransforms(t, c.name, c.l, c.f, c.want)
	}
	for _, c := range wrongFields {
		testTransforms(t, "a wrong field", list(1, 2, 3), c.f, c.want)
	}
}

func testTransforms(t *testing.T, name string, l []int, f api.PulseField, want api.Errno) {
	t.Helper()
	m, e := pulse.Transformed(l, f)
	wantErrno(t, "Transformed, "+name, e, want)
	n, g := pulse.Back(l, f)
	wantErrno(t, "Back, "+name, g, want)
	if want == api.OK && (len(m) != f.Period || len(n) != f.Period) || want != api.OK && len(m)+len(n) > 0 {
		t.Errorf("%s: %v, %v", name, m, n)
	}
}

// P4.12: each transform undoes the other one, modulo the prime.
func TestBackUndoes(t *testing.T) {
	r := rand.New(rand.NewSource(10))
	for _, f := range someFields(r) {
		l := anyInts(r, f.Period, greatPrime)
		want := make([]int, len(l))
		for i, n := range l {
			want[i] = (n%f.Prime + f.Prime) % f.Prime
		}
		m, _ := pulse.Transformed(l, f)
		back, e := pulse.Back(m, f)
		wantInts(t, "back of transformed", back, e, want)
		m, _ = pulse.Back(l, f)
		forth, e := pulse.Transformed(m, f)
		wantInts(t, "transformed of back", forth, e, want)
	}
}

// P4.12: the transform of a list turned by one number is multiplied by powers of the root.
func TestTurnedList(t *testing.T) {
	r := rand.New(rand.NewSource(11))
	for _, f := range someFields(r) {
		l := anyInts(r, f.Period, greatPrime)
		turned := append(slices.Clone(l[f.Period-1:]), l[:f.Period-1]...)
		want, _ := pulse.Transformed(l, f)
		for k, n := range want {
			want[k] = n * slowPower(f.Root, k, f.Prime) % f.Prime
		}
		m, e := pulse.Transformed(turned, f)
		wantInts(t, "turned", m, e, want)
	}
}
