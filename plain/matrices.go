package plain

import (
	"bytes"
	"maps"
	"math"
	"math/bits"
	"slices"

	"erratum/api"
)

// Sized is a matrix of many kinds of cells; another seed tells others.
func Sized(seed, rows, cols int) api.Matrix {
	m := api.Matrix{Rows: rows, Cols: cols}
	for i := range rows {
		m.Cells = append(m.Cells, Mixed(seed+7*i, cols)...)
	}
	return m
}

// Sizes are rows and columns of many kinds: none of either, one of either, as many as lanes hold, and the most.
func Sizes() [][2]int {
	return [][2]int{{0, 0}, {0, 1}, {1, 0}, {0, 5}, {5, 0}, {0, 300}, {300, 0}, {1, 1}, {1, 2}, {2, 1}, {2, 2}, {2, 3}, {3, 2}, {3, 3},
		{5, 5}, {1, 5}, {5, 1}, {4, 64}, {64, 4}, {3, 65}, {65, 3}, {64, 65}, {65, 64}, {17, 129}, {1, 300}, {300, 1}, {300, 2}, {2, 300}}
}

// Matrices are right ones of all those sizes, and some known ones.
func Matrices() []api.Matrix {
	l := []api.Matrix{{Rows: 1, Cols: 1, Cells: []byte{0}}, {Rows: 1, Cols: 1, Cells: []byte{1}}, {Rows: 1, Cols: 2, Cells: []byte{1, 2}},
		{Rows: 2, Cols: 2, Cells: []byte{1, 1, 0, 2}}, {Rows: 2, Cols: 2, Cells: []byte{0, 0, 0, 0}}, {Rows: 3, Cols: 3, Cells: []byte{1, 0, 0, 0, 1, 0, 0, 0, 1}}}
	for seed, size := range Sizes() {
		l = append(l, Sized(seed, size[0], size[1]))
	}
	return l
}

// Crooked are matrices that are not right: sides below 0 and above 300, more and fewer cells, and sides whose product comes round to the number of cells.
func Crooked() []api.Matrix {
	const half, seventh = 1 << (bits.UintSize / 2), (3<<bits.UintSize + 1) / 7
	l := []api.Matrix{}
	for _, c := range [][3]int{{-1, 0, 0}, {0, -1, 0}, {-1, 5, 0}, {5, -1, 0}, {-1, -1, 0}, {-1, -1, 1}, {-2, -3, 6}, {-300, -300, 90000},
		{301, 0, 0}, {0, 301, 0}, {301, 1, 301}, {1, 301, 301}, {301, 301, 90601}, {300, 301, 90300}, {301, 300, 90300}, {600, 2, 1200}, {2, 600, 1200},
		{0, 0, 1}, {0, 5, 5}, {5, 0, 5}, {0, 1, 1}, {1, 0, 1}, {1, 1, 0}, {1, 1, 2}, {2, 2, 0}, {2, 2, 2}, {2, 2, 3}, {2, 2, 5}, {3, 2, 5}, {2, 3, 7},
		{300, 300, 0}, {300, 300, 89999}, {300, 300, 90001}, {300, 1, 299}, {1, 300, 301},
		{half, half, 0}, {2 * half, half / 2, 0}, {half / 2, 2 * half, 0}, {-half, half, 0}, {7, seventh, 1}, {seventh, 7, 1},
		{math.MinInt, 2, 0}, {2, math.MinInt, 0}, {math.MinInt, math.MinInt, 0}, {math.MaxInt, math.MaxInt, 1}, {math.MaxInt, 0, 0}, {0, math.MaxInt, 0},
		{math.MinInt, 0, 0}, {0, math.MinInt, 0}} {
		l = append(l, api.Matrix{Rows: c[0], Cols: c[1], Cells: Mixed(c[2]+1, c[2])})
	}
	return l
}

// Cell is that at a row and a column of a right matrix.
func Cell(m api.Matrix, row, col int) byte { return m.Cells[row*m.Cols+col] }

// MatrixProduct is that of two right matrices whose sizes fit: each cell by each.
func MatrixProduct(a, b api.Matrix) api.Matrix {
	product := api.Matrix{Rows: a.Rows, Cols: b.Cols}
	for i := range a.Rows {
		for j := range b.Cols {
			var sum byte
			for k := range a.Cols {
				sum ^= Mul(Cell(a, i, k), Cell(b, k, j))
			}
			product.Cells = append(product.Cells, sum)
		}
	}
	return product
}

// Turned is a right matrix with rows for columns.
func Turned(m api.Matrix) api.Matrix {
	turned := api.Matrix{Rows: m.Cols, Cols: m.Rows}
	for j := range m.Cols {
		for i := range m.Rows {
			turned.Cells = append(turned.Cells, Cell(m, i, j))
		}
	}
	return turned
}

// RowsOf are the rows of a right matrix, each in memory of its own.
func RowsOf(m api.Matrix) [][]byte {
	rows := make([][]byte, m.Rows)
	for i := range rows {
		rows[i] = slices.Clone(m.Cells[i*m.Cols : (i+1)*m.Cols])
	}
	return rows
}

// AddTimes adds a times another row.
func AddTimes(row []byte, a byte, other []byte) {
	for i, b := range other {
		row[i] ^= Mul(a, b)
	}
}

// FirstNot0 is where a row's first cell that is not 0 stands; its length, if there is none.
func FirstNot0(row []byte) int {
	at := 0
	for at < len(row) && row[at] == 0 {
		at++
	}
	return at
}

// Reduced is a right matrix in the form that gauss.Echelon is to tell, and its leads. It takes row after row, and brings each down by those that lead already; the package goes through columns.
func Reduced(m api.Matrix) (api.Matrix, []int) {
	by := map[int][]byte{}
	for _, row := range RowsOf(m) {
		for col, other := range by {
			AddTimes(row, row[col], other)
		}
		at := FirstNot0(row)
		if at == len(row) {
			continue
		}
		scaled := Scaled(Inverse(row[at]), row) // It lacks the noughts at its end.
		row = Behind(scaled, m.Cols-len(scaled))
		for _, other := range by {
			AddTimes(other, other[at], row)
		}
		by[at] = row
	}
	leads := slices.Sorted(maps.Keys(by))
	reduced := api.Matrix{Rows: m.Rows, Cols: m.Cols}
	for _, col := range leads {
		reduced.Cells = append(reduced.Cells, by[col]...)
	}
	reduced.Cells = Behind(reduced.Cells, m.Rows*m.Cols-len(reduced.Cells))
	return reduced, leads
}

// WithColumn is a right matrix with one more column behind the others.
func WithColumn(m api.Matrix, b []byte) api.Matrix {
	wide := api.Matrix{Rows: m.Rows, Cols: m.Cols + 1}
	for i, row := range RowsOf(m) {
		wide.Cells = append(append(wide.Cells, row...), b[i])
	}
	return wide
}

// Column is a matrix of one column.
func Column(v []byte) api.Matrix { return api.Matrix{Rows: len(v), Cols: 1, Cells: v} }

// NoMatrix says whether a matrix is its zero value.
func NoMatrix(m api.Matrix) bool { return m.Rows == 0 && m.Cols == 0 && len(m.Cells) == 0 }

// SameMatrix says whether two matrices are.
func SameMatrix(a, b api.Matrix) bool {
	return a.Rows == b.Rows && a.Cols == b.Cols && bytes.Equal(a.Cells, b.Cells)
}

// CopiedMatrix shares no memory with m.
func CopiedMatrix(m api.Matrix) api.Matrix {
	m.Cells = slices.Clone(m.Cells)
	return m
}

// FramedMatrix is a matrix whose cells lie within a longer list.
func FramedMatrix(m api.Matrix) (whole []byte, inner api.Matrix) {
	whole, cells := Framed(m.Cells)
	return whole, api.Matrix{Rows: m.Rows, Cols: m.Cols, Cells: cells}
}
