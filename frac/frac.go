// Package frac is layer 1: quotients, and what is greater. See shared/doc/01-frac.md.
package frac

import "fusee/api"

// maxWorth bounds what Beats is asked of, so that no square leaves a word.
const maxWorth = 1 << 20

// maxRoot is the root of api.MaxNum.
const maxRoot = 1 << 31

// ratio is a through b.
type ratio struct{ a, b int }

// Floor is the greatest number that times b is no more than a.
func Floor(a, b int) (int, bool) {
	r := ratio{a, b}
	return r.tell(r.floor)
}

// Ceil is the least number that times b is no less than a.
func Ceil(a, b int) (int, bool) {
	r := ratio{a, b}
	return r.tell(r.ceil)
}

// Cmp holds a through b against c through d.
func Cmp(a, b, c, d int) (int, bool) {
	if !(ratio{a, b}).may() || !(ratio{c, d}).may() {
		return 0, false
	}
	return product(a, d).order(product(c, b)), true
}

// Root is the greatest number whose square is no more than n.
func Root(n int) (int, bool) {
	if !within(n, 0, api.MaxNum) {
		return 0, false
	}
	root, limit := 0, product(n, 1)
	// The squares are held as words: those of the roots that are tried go beyond an int.
	for bit := maxRoot; bit > 0; bit /= 2 {
		next := root + bit
		if product(next, next).order(limit) <= 0 {
			root = next
		}
	}
	return root, true
}

// Beats tells whether v is more than 1 and the root of k, times s.
func Beats(v, s, k int) bool {
	if !within(v, 0, maxWorth) || !within(s, 0, maxWorth) || !within(k, 0, maxWorth) {
		return false
	}
	return v > s && product(v-s, v-s).order(product(k, s*s)) > 0
}

// within tells whether n is from low to high.
func within(n, low, high int) bool {
	return low <= n && n <= high
}

// may tells whether there are quotients of r.
func (r ratio) may() bool {
	return within(r.a, 0, api.MaxNum) && within(r.b, 1, api.MaxNum)
}

// tell keeps the quotient from being taken where there is none.
func (r ratio) tell(quotient func() int) (int, bool) {
	if !r.may() {
		return 0, false
	}
	return quotient(), true
}

func (r ratio) floor() int {
	return r.a / r.b
}

func (r ratio) ceil() int {
	if r.a%r.b == 0 {
		return r.a / r.b
	}
	return r.a/r.b + 1
}
