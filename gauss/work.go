package gauss

import (
	"erratum/api"
	"erratum/field"
	"erratum/matrix"
)

// work is a matrix in memory of its own, whose rows are changed in place. It may have more columns than a right one.
type work struct {
	api.Matrix
	f *field.Field
}

// blank has 0 in all cells.
func blank(f *field.Field, rows, cols int) work {
	return work{api.Matrix{Rows: rows, Cols: cols, Cells: make([]byte, rows*cols)}, f}
}

// beside has in each row that of a, and behind it that of b: right matrices of as many rows.
func beside(f *field.Field, a, b api.Matrix) work {
	w := blank(f, a.Rows, a.Cols+b.Cols)
	for i := range w.Rows {
		copy(w.row(i), matrix.Row(a, i))
		copy(w.row(i)[a.Cols:], matrix.Row(b, i))
	}
	return w
}

// row is one in the work's own memory.
func (w work) row(i int) []byte {
	from, to := i*w.Cols, (i+1)*w.Cols
	return w.Cells[from:to:to]
}

// swap has two rows change places.
func (w work) swap(i, j int) {
	a, b := w.row(i), w.row(j)
	for at := range a {
		a[at], b[at] = b[at], a[at]
	}
}

// reduce makes the work REDUCED, and tells the columns of its LEADS.
func (w work) reduce() []int {
	var leads []int
columns:
	for col := range w.Cols {
		top := len(leads)
		for i := top; i < w.Rows; i++ {
			if w.row(i)[col] != 0 {
				w.swap(top, i)
				w.lead(top, col)
				leads = append(leads, col)
				continue columns
			}
		}
	}
	return leads
}

// lead makes the row's cell in a column 1, and 0 that of all other rows. Ahead of it the row has noughts, which change nothing: they are left out.
func (w work) lead(top, col int) {
	first := w.row(top)[col:]
	by, _ := w.f.Inv(first[0]) // It is not 0, or it could not lead.
	copy(first, w.f.Each(by, first))
	for i := range w.Rows {
		rest := w.row(i)[col:]
		if i != top && rest[0] != 0 {
			addTo(rest, w.f.Each(rest[0], first))
		}
	}
}

// addTo adds cell by cell.
func addTo(row, other []byte) {
	for i, b := range other {
		row[i] ^= b
	}
}
