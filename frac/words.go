package frac

import "math/bits"

// words is a product, its upper word first: two numbers that may be have one beyond an int.
type words [2]uint64

// product is a times b, neither of which is below 0.
func product(a, b int) words {
	upper, lower := bits.Mul64(uint64(a), uint64(b))
	return words{upper, lower}
}

// order is -1, 0 or 1, as w is less than x, the same, or greater.
func (w words) order(x words) int {
	if w == x {
		return 0
	}
	if w[0] < x[0] || w[0] == x[0] && w[1] < x[1] {
		return -1
	}
	return 1
}
