// Package sat is layer 1: see shared/doc/01-sat.md.
package sat

import "murmur/api"

// Clamp is a number within bounds: -Top for one below, Top for one above.
func Clamp(n int) int { return Within(n, -api.Top, api.Top) }

// Add is a sum within bounds.
func Add(a, b int) int { return reckon(a, b, pair.sum) }

// Sub is a difference within bounds.
func Sub(a, b int) int { return reckon(a, b, pair.difference) }

// Mul is a product within bounds.
func Mul(a, b int) int { return reckon(a, b, pair.product) }

// CeilDiv is a quotient, rounded up; ErrArg, if b is 0 or less.
func CeilDiv(a, b int) (int, api.Errno) {
	if b <= 0 {
		return 0, api.ErrArg
	}
	return reckon(a, b, pair.ceiling), api.OK
}

// Within is a number no less than lo, no more than hi; where lo is above hi, hi is asked first.
func Within(n, lo, hi int) int {
	if n > hi {
		return hi
	}
	if n < lo {
		return lo
	}
	return n
}

// pair is two numbers to reckon with, both within bounds.
type pair struct{ a, b int }

// reckon is the one way to a pair, so that no way of reckoning meets a number beyond the bounds, or hands one out.
func reckon(a, b int, how func(pair) int) int {
	return Clamp(how(pair{Clamp(a), Clamp(b)}))
}

func (p pair) sum() int { return p.a + p.b }

func (p pair) difference() int { return p.a - p.b }

// product asks by a division first: two numbers within bounds may have a product that an int would go round at.
func (p pair) product() int {
	if p.b == 0 || size(p.a) <= api.Top/size(p.b) {
		return p.a * p.b
	}
	if (p.a < 0) != (p.b < 0) {
		return -api.Top
	}
	return api.Top
}

// ceiling takes a b above 0. A division cuts off towards 0, so only what is left above 0 has to be rounded up.
func (p pair) ceiling() int {
	q := p.a / p.b
	if p.a%p.b > 0 {
		q++
	}
	return q
}

// size is a number without its sign. The least int has none, but no pair holds that.
func size(n int) int {
	if n < 0 {
		return -n
	}
	return n
}
