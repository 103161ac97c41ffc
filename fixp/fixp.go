// Package fixp is layer 1; see shared/doc/01-fixp.md.
package fixp

import (
	"math/bits"

	"sakia/api"
)

// parts is an integer of 128 bits in two's complement, its low part first.
type parts [2]uint64

// Product returns the product of two numbers with 128 bits.
func Product(a, b int64) (hi int64, lo uint64) {
	p := multiply(a, b)
	return int64(p[1]), p[0]
}

// Shift returns 64 bits of a number with 128 bits.
func Shift(hi int64, lo uint64, q int) int64 {
	if q < 0 || q > 63 {
		return 0
	}
	return parts{lo, uint64(hi)}.shift(q)
}

// Mul returns the product of two fixed-point numbers.
func Mul(a, b int64, q int) int64 {
	if !fractionBits(q) {
		return 0
	}
	return multiply(a, b).shift(q)
}

// Sum returns the sum of numbers.
func Sum(l ...int64) int64 {
	var total int64
	for x := range each(l...) {
		total += x
	}
	return total
}

// Sub returns the difference of two numbers.
func Sub(a, b int64) int64 { return a - b }

// One returns the fixed-point number 1.
func One(q int) int64 {
	if !fractionBits(q) {
		return 0
	}
	return 1 << q
}

// Relu returns a number, and 0 for negative ones.
func Relu(a int64) int64 { return Gate(a, a) }

// Gate returns g, if a is greater than 0.
func Gate(a, g int64) int64 {
	if a > 0 {
		return g
	}
	return 0
}

// fractionBits reports whether a fixed-point number can have q fraction bits.
func fractionBits(q int) bool { return 0 <= q && q <= api.MaxShift }

// multiply returns the whole product of two numbers.
func multiply(a, b int64) parts {
	var p parts
	p[1], p[0] = bits.Mul64(uint64(a), uint64(b))
	// Mul64 takes a negative factor for one that is greater by 2^64, which puts the other factor into the high part once too often.
	if a < 0 {
		p[1] -= uint64(b)
	}
	if b < 0 {
		p[1] -= uint64(a)
	}
	return p
}

// shift returns the integer, divided by 2^q and rounded down, modulo 2^64, for q from 0 to 63.
func (p parts) shift(q int) int64 {
	// With q = 0 the high part is shifted by all its 64 bits, so that nothing of it is left, as it should be.
	return int64(p[1]<<(64-q) | p[0]>>q)
}

// each yields numbers one after the other.
func each(l ...int64) func(yield func(int64) bool) {
	return func(yield func(int64) bool) {
		for _, x := range l {
			if !yield(x) {
				return
			}
		}
	}
}
