// Package plain multiplies bytes by doubling alone: no layer stands on it, the tests hold the layers' answers against it.
package plain

// Double is a byte times 2, modulo 11D.
func Double(a byte) byte {
	if a < 0x80 {
		return a << 1
	}
	return a<<1 ^ 0x1D
}

// Mul is a product.
func Mul(a, b byte) byte {
	var p byte
	for ; b != 0; b >>= 1 {
		if b&1 == 1 {
			p ^= a
		}
		a = Double(a)
	}
	return p
}

// AllPairs goes through all bytes with all bytes.
func AllPairs(do func(a, b byte)) {
	for a := range 256 {
		for b := range 256 {
			do(byte(a), byte(b))
		}
	}
}
