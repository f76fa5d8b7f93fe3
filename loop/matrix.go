package loop

import "slices"

// matrix has as many rows as columns.
type matrix [][]int

// leading is the first rows and columns.
func (m matrix) leading(count int) matrix {
	var l matrix
	for _, row := range m[:count] {
		l = append(l, row[:count])
	}
	return l
}

// withOnes is the matrix with ones in a column.
func (m matrix) withOnes(column int) matrix {
	var l matrix
	for _, row := range m {
		l = append(l, slices.Concat(row[:column], []int{1}, row[column+1:]))
	}
	return l
}

// rest is the matrix without its first row and a column.
func (m matrix) rest(column int) matrix {
	var l matrix
	for _, row := range m[1:] {
		l = append(l, slices.Concat(row[:column], row[column+1:]))
	}
	return l
}

// determinant goes along the first row.
func (m matrix) determinant() int {
	if len(m) == 0 {
		return 1
	}
	sum, sign := 0, 1
	for j, n := range m[0] {
		sum += sign * n * m.rest(j).determinant()
		sign = -sign
	}
	return sum
}

// products is a sum of products of numbers of two lists of the same length.
func products(a, b []int) int {
	sum := 0
	for i, n := range a {
		sum += n * b[i]
	}
	return sum
}
