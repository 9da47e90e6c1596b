// Package fixq is layer 1: numbers of 64 bits, from 0 on, that don't go round.
package fixq

import (
	"math"
	"math/bits"

	"forelock/api"
)

// Add is the sum.
func Add(a, b uint64) (uint64, api.Errno) {
	sum, carry := bits.Add64(a, b, 0)
	if carry != 0 {
		return math.MaxUint64, api.ErrOver
	}
	return sum, api.OK
}

// Sub is the difference.
func Sub(a, b uint64) (uint64, api.Errno) {
	if a < b {
		return 0, api.ErrOver
	}
	return a - b, api.OK
}

// Mul is the product.
func Mul(a, b uint64) (uint64, api.Errno) {
	p := product(a, b)
	if p.high != 0 {
		return math.MaxUint64, api.ErrOver
	}
	return p.low, api.OK
}

// MulDiv is a times b, divided by c, without what is left over.
func MulDiv(a, b, c uint64) (uint64, api.Errno) {
	if c == 0 {
		return 0, api.ErrArg
	}
	p := product(a, b)
	// From here on the quotient needs more than 64 bits, and Div64 would panic.
	if p.high >= c {
		return math.MaxUint64, api.ErrOver
	}
	quotient, _ := bits.Div64(p.high, p.low, c)
	return quotient, api.OK
}

// MulMod is what is left over when a times b is divided by c.
func MulMod(a, b, c uint64) (uint64, api.Errno) {
	if c == 0 {
		return 0, api.ErrArg
	}
	p := product(a, b)
	return bits.Rem64(p.high, p.low, c), api.OK
}

// Compare holds the fraction a by b against c by d: -1, 0 or 1.
func Compare(a, b, c, d uint64) (int, api.Errno) {
	if b == 0 || d == 0 {
		return 0, api.ErrArg
	}
	return order(product(a, d), product(c, b)), api.OK
}

// Near tells whether a times all is apart from w times t by at most k times all.
func Near(a, w, t, all, k uint64) bool {
	// To hold the distance against k times all keeps to 128 bits; a sum of two of these products may need one more.
	return order(apart(product(a, all), product(w, t)), product(k, all)) <= 0
}
