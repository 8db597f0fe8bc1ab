package massey_test

import (
	"slices"

	"erratum/api"
	"erratum/field"
	"erratum/plain"
)

// fields are one of each backend.
func fields() map[string]*field.Field {
	return map[string]*field.Field{
		"Table": field.Of(api.Table),
		"Shift": field.Of(api.Shift),
		"Lanes": field.Of(api.Lanes),
	}
}

// isRegister says whether l is one of length n.
func isRegister(l []byte, n int) bool {
	return len(l) > 0 && l[0] == 1 && len(plain.Strip(l))-1 <= n
}

// makesPlain says what the chapter says of Makes, word by word.
func makesPlain(l []byte, n int, s []byte) bool {
	if n < 0 || n > len(s) || !isRegister(l, n) {
		return false
	}
	for i := n; i < len(s); i++ {
		if plain.ComeTo(l, s, i) != 0 {
			return false
		}
	}
	return true
}

// equations are what a register of length n has to hold to make s: a row for each byte that it makes, a column for each coefficient but the first, and that byte.
func equations(n int, s []byte) (api.Matrix, []byte) {
	m := api.Matrix{Rows: len(s) - n, Cols: n}
	for i := n; i < len(s); i++ {
		for j := range n {
			m.Cells = append(m.Cells, s[i-1-j])
		}
	}
	return m, s[n:]
}

// countOf says how many registers of length n make s: none 0, one 1, more 2.
func countOf(n int, s []byte) int {
	m, b := equations(n, s)
	_, leads := plain.Reduced(plain.WithColumn(m, b))
	switch {
	case slices.Contains(leads, n):
		return 0
	case len(leads) == n:
		return 1
	default:
		return 2
	}
}

// lists are of many kinds: none, noughts, with one byte behind them, what registers make, with one byte turned, and others.
func lists() [][]byte {
	l := [][]byte{nil, {}, {0}, {1}, {0xFF}, {1, 2, 4, 8}, {1, 1, 2, 3, 5, 8}, make([]byte, 40), slices.Repeat([]byte{7}, 30)}
	for _, n := range []int{0, 1, 2, 3, 5, 8, 13} {
		l = append(l, plain.Behind(plain.LastOne(n+1, 0x53), n/2), plain.Mixed(n, n), plain.Mixed(n+3, 3*n+1))
		for i, r := range plain.Registers(n) {
			s := plain.Made(r, plain.Mixed(n+i, n), 2*n+3+i%3)
			l = append(l, s, plain.Added(s, len(s)-1, 1), plain.Added(s, len(s)/2, 0x80), plain.Added(s, 0, 0xFF))
		}
	}
	return l
}
