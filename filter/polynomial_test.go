package filter_test

import (
	"math"
	"math/rand"
	"slices"
	"testing"

	"shoebox/api"
	"shoebox/filter"
)

// wrongPolynomials is what is no polynomial, and why.
func wrongPolynomials() map[api.Errno][][]int {
	return map[api.Errno][][]int{
		api.ErrShape: {nil, {}, {1}, {0}, {101}, {-1}, {leastInt}, {1, 0, 0, 0, 0, 0}, {0, 101, 0, 0, 0, 0, 0}},
		api.ErrRange: {
			{101, 0, 0}, {1, 101, 0}, {1, 0, -101}, {0, -101, 0}, {-5, 1, 101}, {leastInt, 0, 0}, {1, 0, leastInt}, {1, 2, 3, 4, 101},
			{greatestInt, 0, 0}, {-101, 0, 0},
		},
		api.ErrZero: {{0, 1, 0}, {-1, 0, 0}, {-100, 100, -100}, {0, 0, 0, 0, 0}},
	}
}

// P6.2: the errors of a polynomial.
func TestPolynomialErrors(t *testing.T) {
	for want, l := range wrongPolynomials() {
		for _, p := range l {
			q, e := filter.StepDown(p)
			wantSame(t, "StepDown", len(q), e, 0, want)
			ok, n, e := filter.Schur(p)
			wantPair(t, "Schur", ok, n, e, false, 0, want)
		}
	}
}

// P6.2: there is no step down of the order 1; the errors of the polynomial come first.
func TestOrderOne(t *testing.T) {
	for want, l := range map[api.Errno][][]int{
		api.ErrShape: {{2, 1}, {1, 2}, {100, 100}}, api.ErrRange: {{101, 1}, {0, 101}, {1, leastInt}}, api.ErrZero: {{0, 1}, {-1, 0}},
	} {
		for _, p := range l {
			q, e := filter.StepDown(p)
			wantSame(t, "StepDown", len(q), e, 0, want)
		}
	}
	ok, n, e := filter.Schur(list(101, 1))
	wantPair(t, "Schur", ok, n, e, false, 0, api.ErrRange)
	ok, n, e = filter.Schur(list(0, 1))
	wantPair(t, "Schur", ok, n, e, false, 0, api.ErrZero)
}

// P6.2: one step down, also of what is not stable.
func TestStepDown(t *testing.T) {
	for _, c := range [][2][]int{
		{{2, 1, 1}, {3, 1}}, {{4, 8, 1}, {15, 24}}, {{1, 0, 1}, {0, 0}}, {{1, 5, 3}, {-8, -10}}, {{1, 2, 3, 4}, {-15, -10, -5}},
		{{5, 4, 3, 2, 1}, {24, 18, 12, 6}}, {{5, -4, 3, -2, -1}, {24, -22, 18, -14}}, {{100, 100, 100, 100, -100}, {0, 20000, 20000, 20000}},
		{{100, -100, 100, 100, -100}, {0, 0, 20000, 0}}, {{1, 0, 0}, {1, 0}}, {{100, 100, -100, 100, 99}, {199, 100, -100, 100}},
	} {
		q, e := filter.StepDown(c[0])
		wantList(t, "StepDown", q, e, c[1]...)
	}
}

// P6.2: whether a polynomial is stable, and how many steps down tell.
func TestSchur(t *testing.T) {
	for _, c := range []struct {
		p     []int
		ok    bool
		steps int
	}{
		{list(2, 1, 1), true, 1}, {list(1, 0, 1), false, 0}, {list(1, 0, -1), false, 0}, {list(4, 8, 1), false, 1}, {list(2, 1), true, 0},
		{list(2, -1), true, 0}, {list(2, 2), false, 0}, {list(2, -2), false, 0}, {list(2, -3), false, 0}, {list(2, 3), false, 0},
		{list(1, 0), true, 0}, {list(1, 0, 0, 0, 0), true, 3}, {list(100, 0, 0, 0, 99), true, 3}, {list(100, 0, 0, 0, 100), false, 0},
		{list(100, 0, 0, 0, -100), false, 0}, {list(2, 3, 1), false, 1}, {list(2, -3, 1), false, 1}, {list(3, -4, 1), false, 1}, {list(3, 3, 1), true, 1},
		{list(1, 1, 0), false, 1}, {list(1, 0, 1, 0), false, 1}, {list(100, 99, 98, 97, 96), true, 3}, {list(100, 100, 100, 100, 99), true, 3},
		{list(100, -100, 100, -100, 99), true, 3}, {list(100, 100, 0, 0, 0), false, 3}, {list(100, 0, 100, 0, 0), false, 2}, {list(100, 0, 0, 100, 0), false, 1},
		{list(100, 0, 0, -100, 0), false, 1}, {list(100, 0, -100, 0, 0), false, 2}, {list(100, -100, 0, 0, 0), false, 3}, {list(99, 100, 0), false, 1},
	} {
		ok, n, e := filter.Schur(c.p)
		wantPair(t, "Schur", ok, n, e, c.ok, c.steps, api.OK)
	}
}

// anyPolynomial has an order from 1 to a number, and numbers up to a size; its first one is often great.
func anyPolynomial(r *rand.Rand, order, size int) []int {
	p := list(anyOf(r, size, size, between(r, 1, size)))
	for range between(r, 1, order) {
		p = append(p, anyOf(r, 0, size, -size, between(r, -size, size), between(r, -size, size)))
	}
	return p
}

// P6.2: the same as step after step without a bound, and as the roots say.
func TestSchurSlowly(t *testing.T) {
	r := rand.New(rand.NewSource(62))
	count := 0
	for range 3000 {
		p := anyPolynomial(r, 4, anyOf(r, 3, 10, 100))
		want, steps := slowSteps(p)
		ok, n, e := filter.Schur(p)
		wantPair(t, "Schur", ok, n, e, want, steps, api.OK)
		most := greatestRoot(p)
		if math.Abs(most-1) > 0.01 && ok != (most < 1) {
			t.Errorf("Schur(%v): %v, with a root %v from 0", p, ok, most)
		}
		if ok {
			count++
		}
	}
	if count < 500 || count > 2500 {
		t.Errorf("%d of 3000 were stable", count)
	}
}

// product is the polynomial of two factors.
func product(p, q []int) []int {
	l := make([]int, len(p)+len(q)-1)
	for i, a := range p {
		for j, b := range q {
			l[i+j] += a * b
		}
	}
	return l
}

// P6.8: a product is stable just if both factors are; roots on the circle are not stable.
func TestStableProducts(t *testing.T) {
	r := rand.New(rand.NewSource(68))
	count := [2]int{}
	for count[0] < 2000 || count[1] < 2000 {
		p, q := anyPolynomial(r, 3, anyOf(r, 2, 5, 9)), anyPolynomial(r, 3, anyOf(r, 2, 5, 9))
		x := product(p, q)
		if len(x) > 5 || slices.Max(x) > 100 || slices.Min(x) < -100 {
			continue
		}
		a, _, wrongA := filter.Schur(p)
		b, _, wrongB := filter.Schur(q)
		ok, _, e := filter.Schur(x)
		wantPair(t, "factors", wrongA, wrongB, e, api.OK, api.OK, api.OK)
		wantSame(t, "product", ok, e, a && b, api.OK)
		count[choose(ok, 1, 0)]++
	}
}

// P6.8: a section with the coefficients of a polynomial is stable just if that is.
func TestStableAsPolynomials(t *testing.T) {
	r := rand.New(rand.NewSource(69))
	count := 0
	for range 5000 {
		first := 1 << r.Intn(7)
		room := min(100, 2*first) // the coefficients of sections are at most 2
		p := list(first, between(r, -room, room), anyOf(r, 0, first, -first, first-1, 1-first, between(r, -room, room)))
		ok, _, e := filter.Schur(p)
		want, wrong := filter.IsStable(fed(p[1]*one/first, p[2]*one/first))
		wantPair(t, "Schur", ok, e, wrong, want, api.OK, api.OK)
		if ok {
			count++
		}
	}
	if count < 500 || count > 4500 {
		t.Errorf("%d of 5000 were stable", count)
	}
}
