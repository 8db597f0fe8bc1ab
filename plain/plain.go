// Package plain multiplies bytes, polynomials and matrices, divides polynomials and reduces rows by doubling alone, and tells lists, registers, matrices, codes, messages, words, what comes of them, and places to try calls with: no layer stands on it, the tests hold the layers' answers against it.
package plain

import (
	"math"
	"slices"
)

// Double is a byte times 2, modulo 11D.
func Double(a byte) byte {
	if a < 0x80 {
		return a << 1
	}
	return a<<1 ^ 0x1D
}

// Mul is a product.
func Mul(a, b byte) byte {
	var p byte
	for ; b != 0; b >>= 1 {
		if b&1 == 1 {
			p ^= a
		}
		a = Double(a)
	}
	return p
}

// Inverse is that of a byte that is not 0.
func Inverse(a byte) byte {
	i := byte(1)
	for Mul(a, i) != 1 {
		i++
	}
	return i
}

// AllPairs goes through all bytes with all bytes.
func AllPairs(do func(a, b byte)) {
	for a := range 256 {
		for b := range 256 {
			do(byte(a), byte(b))
		}
	}
}

// Mixed are bytes of many kinds, noughts among them; another seed tells others.
func Mixed(seed, long int) []byte {
	l := make([]byte, long)
	for i := range l {
		l[i] = byte((i+seed)*(i+seed)*37 + 101*i + seed)
		if (i+seed)%11 == 0 {
			l[i] = 0
		}
	}
	return l
}

// Framed is a list within a longer one, whose other bytes, or numbers, are FF: what lies behind the list's length is there to be touched.
func Framed[T byte | int](l []T) (whole, inner []T) {
	whole = slices.Concat([]T{0xFF, 0xFF}, l, slices.Repeat([]T{0xFF}, 130))
	return whole, whole[2 : 2+len(l)]
}

// Spoil changes a list up to its capacity's end.
func Spoil[T byte | int](l []T) {
	whole := l[:cap(l)]
	for i := range whole {
		whole[i] ^= 0xA5
	}
}

// Around are the numbers round the edges of a list, and as far off as an int is.
func Around(long int) []int {
	l := []int{math.MinInt, math.MinInt + 1, -1 << 32, -1 << 31, -1000, -2, -1, 0, 1, 2, 3, 1000, 1 << 31, 1 << 32, math.MaxInt - 1, math.MaxInt}
	for n := long - 2; n <= long+2; n++ {
		l = append(l, n, -n)
	}
	return l
}

// OtherLengths are lists that are not long: none, one byte, one fewer and one more, twice as many, and some others.
func OtherLengths(long int, others ...int) [][]byte {
	var l [][]byte
	for _, n := range append([]int{0, 1, long - 1, long + 1, 2 * long, 255, 256, long + 255, long + 256, 511}, others...) {
		if n >= 0 && n != long {
			l = append(l, make([]byte, n), Mixed(n, n))
		}
	}
	return append(l, nil)
}

// Resized are a list with bytes more or fewer, ahead and behind, noughts as well as others.
func Resized(l []byte) [][]byte {
	return [][]byte{l[1:], l[:len(l)-1], append([]byte{0}, l...), Behind(l, 1), append(slices.Clone(l), 7), slices.Concat(l, l), Behind(l, 256)}
}

// AllShort are all lists of up to long of some things, each as often as may be.
func AllShort[T any](long int, of ...T) [][]T {
	lists := [][]T{nil}
	for at := 0; at < len(lists) && len(lists[at]) < long; at++ {
		for _, thing := range of {
			lists = append(lists, append(slices.Clone(lists[at]), thing))
		}
	}
	return lists
}

// Apart are the places, rising, at which two lists are unlike, up to the shorter one's end.
func Apart(l, m []byte) []int {
	var places []int
	for i := range min(len(l), len(m)) {
		if l[i] != m[i] {
			places = append(places, i)
		}
	}
	return places
}

// Added is a list with a byte added at a place.
func Added(l []byte, at int, b byte) []byte {
	added := slices.Clone(l)
	added[at] ^= b
	return added
}

// Xored is the sum of two lists of one length, as long as they are.
func Xored(l, m []byte) []byte {
	sum := slices.Clone(l)
	for i, b := range m {
		sum[i] ^= b
	}
	return sum
}

// Times is a list multiplied by a byte, as long as it was.
func Times(a byte, l []byte) []byte {
	products := slices.Clone(l)
	for i, b := range l {
		products[i] = Mul(a, b)
	}
	return products
}
