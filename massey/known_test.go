package massey_test

import (
	"slices"

	"erratum/api"
	"erratum/field"
	"erratum/plain"
)

// fields are one of each backend.
func fields() map[string]*field.Field {
	return map[string]*field.Field{
		"Table": field.Of(api.Table),
		"Shift": field.Of(api.Shift),
		"Lanes": field.Of(api.Lanes),
	}
}

// isRegister says whether l is one of length n.
func isRegister(l []byte, n int) bool {
	return len(l) > 0 && l[0] == 1 && len(plain.Strip(l))-1 <= n
}

// comeTo is what all products of a coefficient and the byte as far ahead, or at the place itself, are together.
func comeTo(l, s []byte, at int) byte {
	var sum byte
	for j, a := range plain.Strip(l) {
		sum ^= plain.Mul(a, s[at-j])
	}
	return sum
}

// makesPlain says what the chapter says of Makes, word by word.
func makesPlain(l []byte, n int, s []byte) bool {
	if n < 0 || n > len(s) || !isRegister(l, n) {
		return false
	}
	for i := n; i < len(s); i++ {
		if comeTo(l, s, i) != 0 {
			return false
		}
	}
	return true
}

// nextPlain is what a register makes behind a list.
func nextPlain(l, s []byte) byte { return comeTo(l, plain.Behind(s, 1), len(s)) }

// made is as long a list as is asked for, of which the register makes all but its start.
func made(l, start []byte, long int) []byte {
	s := slices.Clone(start)
	for len(s) < long {
		s = append(s, nextPlain(l, s))
	}
	return s
}

// lastOne is a start of n bytes that no register of less length makes: noughts, and another byte behind them.
func lastOne(n int, b byte) []byte {
	if n == 0 {
		return nil
	}
	return plain.Alone(b, n-1)
}

// registers are some of length n: of all degrees from 0 to n, if n is small, else of some.
func registers(n int) [][]byte {
	l := [][]byte{{1}}
	for _, d := range []int{1, 2, 3, n / 2, n - 1, n} {
		if d < 1 || d > n {
			continue
		}
		mixed := append(plain.Mixed(n+d, d), byte(n%255)+1)
		mixed[0] = 1
		one := plain.Alone(byte(d%255)+1, d)
		one[0] = 1
		l = append(l, mixed, one)
	}
	return l
}

// powers are as many bytes as are asked for: the i-th is all values, each times the i-th power of its place's one, together.
func powers(places []int, values []byte, long int) []byte {
	s := make([]byte, long)
	for k, place := range places {
		term, point := values[k], plain.Point(place)
		for i := range s {
			s[i] ^= term
			term = plain.Mul(term, point)
		}
	}
	return s
}

// equations are what a register of length n has to hold to make s: a row for each byte that it makes, a column for each coefficient but the first, and that byte.
func equations(n int, s []byte) (api.Matrix, []byte) {
	m := api.Matrix{Rows: len(s) - n, Cols: n}
	for i := n; i < len(s); i++ {
		for j := range n {
			m.Cells = append(m.Cells, s[i-1-j])
		}
	}
	return m, s[n:]
}

// countOf says how many registers of length n make s: none 0, one 1, more 2.
func countOf(n int, s []byte) int {
	m, b := equations(n, s)
	_, leads := plain.Reduced(plain.WithColumn(m, b))
	switch {
	case slices.Contains(leads, n):
		return 0
	case len(leads) == n:
		return 1
	default:
		return 2
	}
}

// lists are of many kinds: none, noughts, with one byte behind them, what registers make, with one byte turned, and others.
func lists() [][]byte {
	l := [][]byte{nil, {}, {0}, {1}, {0xFF}, {1, 2, 4, 8}, {1, 1, 2, 3, 5, 8}, make([]byte, 40), slices.Repeat([]byte{7}, 30)}
	for _, n := range []int{0, 1, 2, 3, 5, 8, 13} {
		l = append(l, plain.Behind(lastOne(n+1, 0x53), n/2), plain.Mixed(n, n), plain.Mixed(n+3, 3*n+1))
		for i, r := range registers(n) {
			s := made(r, plain.Mixed(n+i, n), 2*n+3+i%3)
			l = append(l, s, plain.Added(s, len(s)-1, 1), plain.Added(s, len(s)/2, 0x80), plain.Added(s, 0, 0xFF))
		}
	}
	return l
}
