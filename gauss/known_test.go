package gauss_test

import (
	"slices"
	"sync"

	"erratum/api"
	"erratum/field"
	"erratum/plain"
)

// fields are one of each backend.
func fields() map[string]*field.Field {
	return map[string]*field.Field{
		"Table": field.Of(api.Table),
		"Shift": field.Of(api.Shift),
		"Lanes": field.Of(api.Lanes),
	}
}

// of is the matrix of some rows of one length.
func of(rows ...[]byte) api.Matrix {
	return api.Matrix{Rows: len(rows), Cols: len(rows[0]), Cells: slices.Concat(rows...)}
}

// laid is a matrix of rows as long as cols says: there may be none of them.
func laid(cols int, rows ...[]byte) api.Matrix {
	return api.Matrix{Rows: len(rows), Cols: cols, Cells: slices.Concat(rows...)}
}

// noughts has 0 in all cells.
func noughts(rows, cols int) api.Matrix {
	return api.Matrix{Rows: rows, Cols: cols, Cells: make([]byte, rows*cols)}
}

// one has 1 from corner to corner.
func one(n int) api.Matrix {
	m := noughts(n, n)
	for i := range n {
		m.Cells[i*n+i] = 1
	}
	return m
}

// without are the columns, rising, in which no LEAD stands.
func without(cols int, leads []int) []int {
	var l []int
	for j := range cols {
		if !slices.Contains(leads, j) {
			l = append(l, j)
		}
	}
	return l
}

// timesPlain is the product with a column.
func timesPlain(m api.Matrix, v []byte) []byte {
	return plain.MatrixProduct(m, plain.Column(v)).Cells
}

// invertible is a matrix that has an inverse: 0 above the corner-to-corner line by 0 below it, its rows in another order.
func invertible(seed, n int) api.Matrix {
	low, high := plain.Sized(seed, n, n), plain.Sized(seed+3, n, n)
	for i := range n {
		for j := range n {
			switch {
			case i < j:
				low.Cells[i*n+j] = 0
			case i > j:
				high.Cells[i*n+j] = 0
			default:
				low.Cells[i*n+j] |= 1
				high.Cells[i*n+j] |= 2
			}
		}
	}
	rows := plain.RowsOf(plain.MatrixProduct(low, high))
	slices.Reverse(rows)
	return laid(n, rows...)
}

// ofRank is a product of as many rows and columns as are asked for, which may not have more LEADS than rank.
func ofRank(seed, rows, rank, cols int) api.Matrix {
	return plain.MatrixProduct(plain.Sized(seed, rows, rank), plain.Sized(seed+5, rank, cols))
}

// dependent are matrices whose rows are sums of others, the same, turned round, or begin with noughts.
func dependent() []api.Matrix {
	a, b := plain.Mixed(1, 70), plain.Mixed(2, 70)
	sum, times := slices.Clone(a), slices.Clone(a)
	plain.AddTimes(sum, 1, b)
	plain.AddTimes(times, 0x53, b)
	l := []api.Matrix{of(a, b, sum), of(sum, times, a, b), of(a, a), of(b, a, a, b, a), of(a, make([]byte, 70), a), of(make([]byte, 70), sum, a, b)}
	l = append(l, of([]byte{1, 2, 3}, []byte{2, 4, 6}), of([]byte{2, 4, 6}, []byte{1, 2, 3}, []byte{3, 6, 5}), of([]byte{0, 0, 3}, []byte{0, 2, 1}, []byte{1, 1, 1}),
		of([]byte{0, 1}, []byte{1, 0}), of([]byte{0, 0, 0, 1}, []byte{0, 0, 0, 2}), of([]byte{0, 0, 5, 1}, []byte{0, 0, 5, 1}, []byte{0, 7, 0, 0}),
		of([]byte{0, 0, 1, 1}, []byte{0, 0, 0, 0}, []byte{0, 3, 1, 0}), of([]byte{0, 4}), of([]byte{0}, []byte{4}), of([]byte{0, 0}, []byte{0, 9}), of([]byte{1, 0, 7}, []byte{0, 0, 1}))
	for _, n := range []int{1, 2, 5, 65} {
		back := plain.RowsOf(one(n))
		slices.Reverse(back)
		l = append(l, one(n), laid(n, back...), invertible(n, n))
	}
	for _, size := range [][2]int{{1, 1}, {1, 5}, {5, 1}, {4, 4}, {3, 7}, {7, 3}, {1, 300}, {300, 1}} {
		l = append(l, noughts(size[0], size[1]))
	}
	for _, n := range [][3]int{{4, 0, 4}, {4, 1, 4}, {1, 1, 9}, {9, 1, 1}, {6, 2, 9}, {9, 2, 6}, {5, 4, 5}, {30, 7, 70}, {70, 7, 30}, {66, 65, 66}} {
		l = append(l, ofRank(n[0], n[0], n[1], n[2]))
	}
	return l
}

// small are all matrices of few cells, each of few kinds.
func small() []api.Matrix {
	var l []api.Matrix
	for _, c := range [][3]int{{1, 1, 256}, {1, 2, 5}, {2, 1, 5}, {2, 2, 4}, {2, 3, 2}, {3, 2, 2}, {3, 3, 2}} {
		rows, cols, kinds := c[0], c[1], c[2]
		all := 1
		for range rows * cols {
			all *= kinds
		}
		for n := range all {
			m := noughts(rows, cols)
			for i := range m.Cells {
				m.Cells[i] = byte(n % kinds)
				n /= kinds
			}
			l = append(l, m)
		}
	}
	return l
}

// known is a right matrix, and what Echelon is to tell of it.
type known struct {
	m, reduced api.Matrix
	leads      []int
}

// knownOf are some right matrices, with what is to be told of them.
func knownOf(ms []api.Matrix) []known {
	var l []known
	for _, m := range ms {
		reduced, leads := plain.Reduced(m)
		l = append(l, known{m, reduced, leads})
	}
	return l
}

// tries are right matrices of many kinds, but not the greatest.
func tries() []api.Matrix {
	return slices.Concat(plain.Matrices(), dependent(), small())
}

// greatest are matrices of 300 by 300: one that has an inverse, and one of few LEADS.
func greatest() []api.Matrix {
	return []api.Matrix{invertible(1, 300), ofRank(2, 300, 9, 300)}
}

// knownTries and knownGreatest are made once: the plain way takes its time.
var (
	knownTries    = sync.OnceValue(func() []known { return knownOf(tries()) })
	knownGreatest = sync.OnceValue(func() []known { return knownOf(greatest()) })
)

// allKnown are both of them.
func allKnown() []known { return slices.Concat(knownTries(), knownGreatest()) }
