package plain

import "slices"

// ComeTo is what all products of a coefficient and the byte as far ahead, or at the place itself, are together.
func ComeTo(l, s []byte, at int) byte {
	var sum byte
	for j, a := range Strip(l) {
		sum ^= Mul(a, s[at-j])
	}
	return sum
}

// Next is what a register makes behind a list.
func Next(l, s []byte) byte { return ComeTo(l, Behind(s, 1), len(s)) }

// Made is as long a list as is asked for, of which the register makes all but its start.
func Made(l, start []byte, long int) []byte {
	s := slices.Clone(start)
	for len(s) < long {
		s = append(s, Next(l, s))
	}
	return s
}

// LastOne is a start of n bytes that no register of less length makes: noughts, and another byte behind them.
func LastOne(n int, b byte) []byte {
	if n == 0 {
		return nil
	}
	return Alone(b, n-1)
}

// Registers are some of length n: of all degrees from 0 to n, if n is small, else of some.
func Registers(n int) [][]byte {
	l := [][]byte{{1}}
	for _, d := range []int{1, 2, 3, n / 2, n - 1, n} {
		if d < 1 || d > n {
			continue
		}
		mixed := append(Mixed(n+d, d), byte(n%255)+1)
		mixed[0] = 1
		one := Alone(byte(d%255)+1, d)
		one[0] = 1
		l = append(l, mixed, one)
	}
	return l
}

// Powers are as many bytes as are asked for: the i-th is all values, each times the i-th power of its place's one, together.
func Powers(places []int, values []byte, long int) []byte {
	s := make([]byte, long)
	for k, place := range places {
		term, point := values[k], Point(place)
		for i := range s {
			s[i] ^= term
			term = Mul(term, point)
		}
	}
	return s
}
