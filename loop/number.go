package loop

import "math/bits"

// isSmall tells whether a number is at most so great in size; the least int has no size that is an int.
func isSmall(n, most int) bool { return -most <= n && n <= most }

func size(n int) int { return max(n, -n) }

// modulo is from 0 to by - 1; by is above 0.
func modulo(n, by int) int { return (n%by + by) % by }

// floor divides rounding down, ceiling rounding up, and nearest to the nearest number, halves up; by is above 0.
func floor(n, by int) int   { return (n - modulo(n, by)) / by }
func ceiling(n, by int) int { return -floor(-n, by) }
func nearest(n, by int) int { return floor(n+by/2, by) }

// root is the root of a number above 0, rounded down: by Newton's steps, which fall to it from any greater number and then stop falling.
func root(n int) int {
	r := 1 << ((bits.Len(uint(n)) + 1) / 2)
	for {
		next := (r + n/r) / 2
		if next >= r {
			return r
		}
		r = next
	}
}
