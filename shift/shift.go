// Package shift is layer 1: see shared/doc/01-shift.md.
package shift

import (
	"iter"

	"erratum/api"
)

// order is how many bytes there are but 0: the power order of each of them is 1.
const order = 255

// Wide is a product without carries.
func Wide(a, b byte) uint16 {
	var w uint16
	for i, one := range bits(uint(b)) {
		if one {
			w ^= uint16(a) << i
		}
	}
	return w
}

// Reduce is what is left modulo 11D.
func Reduce(w uint16) byte {
	for i := range 8 {
		// The greatest bit goes first: what is XORed for it may set lower ones again.
		up := 7 - i
		if w>>(8+up)&1 == 1 {
			w ^= api.Modulus << up
		}
	}
	return byte(w)
}

// Mul is a product.
func Mul(a, b byte) byte { return Reduce(Wide(a, b)) }

// Inv is what a byte is divided by.
func Inv(a byte) (byte, bool) {
	if a == 0 {
		return 0, false
	}
	return power(a, order-1), true
}

// Pow is a power.
func Pow(a byte, n int) byte {
	factors := uint(n)
	if n < 0 {
		a, _ = Inv(a)
		// As uint: the least int has no int that is as far above 0.
		factors = -factors
	}
	return power(a, factors)
}

// power is the product of as many factors a.
func power(a byte, factors uint) byte {
	square := squares(a)
	p := byte(1)
	for _, one := range bits(factors) {
		s := square()
		if one {
			p = Mul(p, s)
		}
	}
	return p
}

// squares tells a, then at each call the square of what it told before.
func squares(a byte) func() byte {
	next := a
	return func() byte {
		told := next
		next = Mul(next, next)
		return told
	}
}

// bits are a number's bits, and which of them are 1, from bit 0 up to the greatest that is.
func bits(n uint) iter.Seq2[int, bool] {
	return func(yield func(int, bool) bool) {
		for i := 0; n>>i != 0; i++ {
			if !yield(i, n>>i&1 == 1) {
				return
			}
		}
	}
}
