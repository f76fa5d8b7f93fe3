package array

// fraction is two numbers, not below 0, of which the first one is divided by the second one.
type fraction struct{ num, den int }

func (f fraction) isAtLeast(n int) bool { return f.num >= n*f.den }

// lowest is both numbers in lowest terms.
func (f fraction) lowest() [2]int {
	a, b := f.den, f.num
	for b != 0 {
		a, b = b, a%b
	}
	return [2]int{f.num / a, f.den / a}
}
