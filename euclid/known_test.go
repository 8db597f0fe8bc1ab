package euclid_test

import (
	"slices"

	"erratum/api"
	"erratum/field"
	"erratum/plain"
)

// fields are one of each backend.
func fields() map[string]*field.Field {
	return map[string]*field.Field{
		"Table": field.Of(api.Table),
		"Shift": field.Of(api.Shift),
		"Lanes": field.Of(api.Lanes),
	}
}

// degree is that of a list that has no noughts at its end; -1 of nothing.
func degree(p []byte) int { return len(p) - 1 }

// row is S and V.
type row struct{ left, times []byte }

// rowsPlain are the chapter's words: S and V ahead of the first STEP, and after each one, till no further one can be done.
func rowsPlain(a, b []byte) []row {
	r, s := plain.Strip(a), plain.Strip(b)
	u, v := []byte{}, []byte{1}
	rows := []row{{s, v}}
	for len(s) > 0 {
		q, left := plain.Divided(r, s)
		r, s = s, left
		u, v = v, plain.Sum(u, plain.Product(q, v))
		rows = append(rows, row{s, v})
	}
	return rows
}

// stepsPlain says how many STEPS are done of all that rowsPlain tells.
func stepsPlain(rows []row, stop int) int {
	return slices.IndexFunc(rows, func(r row) bool { return degree(r.left) < max(stop, 0) })
}

// halfPlain is where Key stops.
func halfPlain(t []byte, erased int) int { return (len(t) + erased + 1) / 2 }

// keyPlain is what Key is to tell.
func keyPlain(t []byte, erased int) (locator, evaluator []byte, ok bool) {
	if erased < 0 || erased > len(t) {
		return nil, nil, false
	}
	rows := rowsPlain(plain.Alone(1, len(t)), t)
	r := rows[stepsPlain(rows, halfPlain(t, erased))]
	if len(r.times) == 0 || r.times[0] == 0 {
		return nil, nil, false
	}
	i := plain.Inverse(r.times[0])
	return plain.Scaled(i, r.times), plain.Scaled(i, r.left), true
}

// built are a and b of which these are the quotients, and this is left at last, ahead of 0.
func built(quotients [][]byte, last []byte) (a, b []byte) {
	a, b = last, nil
	for _, q := range slices.Backward(quotients) {
		a, b = plain.Sum(plain.Product(q, a), b), a
	}
	return a, b
}

// manyQuotients are quotients of many kinds: of one degree each, of growing and of falling ones; the first one may be without x, or nothing.
func manyQuotients() [][][]byte {
	l := [][][]byte{{{7}}, {nil, {7, 1}}, {{0, 1}}, {{0, 0, 0, 0, 5}}, {nil}, {nil, {1, 1}, {1, 1}}, {{3}, {0, 1}, {0, 0, 1}}}
	for n := 1; n < 9; n++ {
		var ones, grow, fall [][]byte
		for i := range n {
			ones = append(ones, append(plain.Mixed(n+i, 1), byte(i+2)))
			grow = append(grow, append(plain.Mixed(n*i, i+1), byte(2*i+1)))
			fall = append(fall, append(plain.Mixed(n-i, 2*(n-i)), byte(i+9)))
		}
		l = append(l, ones, grow, fall, slices.Concat([][]byte{{byte(n)}}, fall), slices.Concat([][]byte{nil}, grow))
	}
	return l
}

// stops are round 0 and both degrees, between them, and as far off as an int is.
func stops(a, b []byte) []int {
	d, e := degree(plain.Strip(a)), degree(plain.Strip(b))
	return slices.Concat(plain.Around(d), plain.Around(e), []int{d / 2, (d + 1) / 2, d / 3, e / 2, 2 * e / 3, d + e})
}

// lists are what Key is asked of: none, noughts, with other bytes ahead, behind and between, what registers make, with one byte turned, and others.
func lists() [][]byte {
	l := [][]byte{nil, {}, {0}, {1}, {0xFF}, {0, 1}, {1, 0}, {1, 2, 4, 8}, {1, 1, 2, 3, 5, 8}, make([]byte, 40), slices.Repeat([]byte{7}, 30)}
	for _, n := range []int{0, 1, 2, 3, 5, 8, 13} {
		l = append(l, plain.LastOne(n+1, 0x53), plain.Behind(plain.LastOne(n+1, 0x53), n), plain.Behind(plain.LastOne(n+1, 2), n+1), plain.Mixed(n, n), plain.Mixed(n+3, 3*n+1))
		for i, r := range plain.Registers(n) {
			s := plain.Made(r, plain.Mixed(n+i, n), 2*n+3+i%3)
			l = append(l, s, plain.Added(s, len(s)-1, 1), plain.Added(s, len(s)/2, 0x80), plain.Added(s, 0, 0xFF))
		}
	}
	return l
}
