package plain

import (
	"bytes"
	"maps"
	"slices"
)

// Polys are polynomials of many kinds: none, noughts alone, with and without noughts behind them, short and long.
func Polys() [][]byte {
	l := [][]byte{nil, {}, {0}, {0, 0, 0}, make([]byte, 70), {1}, {2}, {0xFF}, {1, 0}, {0, 1}, {1, 1}, {0, 5, 0}, {3, 0, 0, 7},
		{0, 0, 0, 9}, {1, 2, 3, 4, 5, 0, 0, 0}}
	for _, long := range []int{5, 33, 63, 64, 65, 128, 129, 255, 256, 300} {
		l = append(l, Mixed(long, long), Behind(Mixed(long+1, long), 1+long%9))
	}
	return l
}

// Behind is a list with noughts laid behind it.
func Behind(l []byte, noughts int) []byte {
	return slices.Concat(l, make([]byte, noughts))
}

// Alone is the polynomial a times x^i, of a list that is not longer than it need be.
func Alone(a byte, i int) []byte {
	return append(make([]byte, i), a)
}

// Strip is a list without noughts at its end.
func Strip(p []byte) []byte {
	return bytes.TrimRight(p, "\x00")
}

// Normal says whether a list has no noughts at its end.
func Normal(l []byte) bool { return len(l) == len(Strip(l)) }

// Sum is that of two polynomials.
func Sum(p, q []byte) []byte {
	long := max(len(p), len(q))
	sum := Behind(p, long-len(p))
	for i, b := range Behind(q, long-len(q)) {
		sum[i] ^= b
	}
	return Strip(sum)
}

// Scaled is a polynomial times a byte.
func Scaled(a byte, p []byte) []byte {
	var l []byte
	for _, b := range p {
		l = append(l, Mul(a, b))
	}
	return Strip(l)
}

// Product is that of two polynomials: each coefficient by each.
func Product(p, q []byte) []byte {
	product := make([]byte, len(p)+len(q))
	for i, a := range p {
		for j, b := range q {
			product[i+j] ^= Mul(a, b)
		}
	}
	return Strip(product)
}

// Divided is a quotient, and what is left, by a polynomial that is not 0: multiples of it, shifted, are taken off from the top down.
func Divided(p, q []byte) (times, left []byte) {
	left, q = slices.Clone(Strip(p)), Strip(q)
	top := len(q) - 1
	i := Inverse(q[top])
	times = make([]byte, max(0, len(left)-top))
	for at := len(times) - 1; at >= 0; at-- {
		times[at] = Mul(left[at+top], i)
		for j, b := range q {
			left[at+j] ^= Mul(times[at], b)
		}
	}
	return Strip(times), Strip(left)
}

// Cut is what is left of a polynomial modulo x^n.
func Cut(p []byte, n int) []byte { return Strip(p[:min(len(p), n)]) }

// Monic is the one multiple by a byte whose last byte is 1; nothing of noughts.
func Monic(p []byte) []byte {
	p = Strip(p)
	if len(p) == 0 {
		return nil
	}
	return Scaled(Inverse(p[len(p)-1]), p)
}

// Gcd is the greatest that divides both, and Monic: the shorter one, shifted, is taken off the longer one, till one is 0.
func Gcd(p, q []byte) []byte {
	p, q = Monic(p), Monic(q)
	for len(q) > 0 {
		if len(p) < len(q) {
			p, q = q, p
		} else {
			p = Monic(Sum(p, slices.Concat(make([]byte, len(p)-len(q)), q)))
			p, q = q, p
		}
	}
	return p
}

// FromZeros is the product of x and each of them.
func FromZeros(zeros ...byte) []byte {
	p := []byte{1}
	for _, z := range zeros {
		p = Product(p, []byte{z, 1})
	}
	return p
}

// Value is that of a polynomial at x: each coefficient by its power, from that of x^0 on.
func Value(p []byte, x byte) byte {
	var sum byte
	power := byte(1)
	for _, a := range p {
		sum ^= Mul(a, power)
		power = Mul(power, x)
	}
	return sum
}

// Values are those of a polynomial at some places, in order.
func Values(p, xs []byte) []byte {
	var l []byte
	for _, x := range xs {
		l = append(l, Value(p, x))
	}
	return l
}

// Derived is the derivative: each coefficient added as often as its power says, one power lower.
func Derived(p []byte) []byte {
	var l []byte
	for i := 1; i < len(p); i++ {
		var sum byte
		for range i {
			sum ^= p[i]
		}
		l = append(l, sum)
	}
	return Strip(l)
}

// Alike says whether the same lists are told under the same names; else which one is the first that is another one.
func Alike(a, b map[string][]byte) (string, bool) {
	for _, call := range slices.Sorted(maps.Keys(a)) {
		if !bytes.Equal(a[call], b[call]) {
			return call, false
		}
	}
	return "", true
}

// Copied are lists that share no memory with those that were told.
func Copied(a map[string][]byte) map[string][]byte {
	b := map[string][]byte{}
	for call, l := range a {
		b[call] = slices.Clone(l)
	}
	return b
}
