package matrix_test

import (
	"bytes"
	"math"
	"slices"
	"sync"
	"testing"

	"erratum/api"
	"erratum/field"
	"erratum/matrix"
	"erratum/plain"
)

// fields are one of each backend.
func fields() map[string]*field.Field {
	return map[string]*field.Field{
		"Table": field.Of(api.Table),
		"Shift": field.Of(api.Shift),
		"Lanes": field.Of(api.Lanes),
	}
}

// of is a matrix of rows that are one.
func of(t *testing.T, rows ...[]byte) api.Matrix {
	t.Helper()
	m, ok := matrix.Of(rows)
	if !ok {
		t.Fatalf("Of(%X) is none", rows)
	}
	return m
}

// cut are the rows of a right matrix, in its own memory.
func cut(m api.Matrix) [][]byte {
	rows := make([][]byte, m.Rows)
	for i := range rows {
		rows[i] = m.Cells[i*m.Cols : (i+1)*m.Cols]
	}
	return rows
}

// sumPlain is that of two lists of cells of one length.
func sumPlain(a, b []byte) []byte {
	var sum []byte
	for i := range a {
		sum = append(sum, a[i]^b[i])
	}
	return sum
}

func TestExample(t *testing.T) {
	if got, want := matrix.Turn(of(t, []byte{1, 2})), of(t, []byte{1}, []byte{2}); !plain.SameMatrix(got, want) || !matrix.Same(got, want) {
		t.Errorf("Turn of Of of the rows 1, 2 = %v, not the rows 1, and 2", got)
	}
}

func TestRight(t *testing.T) {
	for _, m := range append(plain.Matrices(), plain.Sized(1, 300, 300), api.Matrix{}, api.Matrix{Cells: []byte{}}, api.Matrix{Rows: 7, Cells: []byte{}}) {
		if !matrix.Right(m) {
			t.Errorf("%d by %d, %d cells, is not right", m.Rows, m.Cols, len(m.Cells))
		}
	}
	for _, m := range plain.Crooked() {
		if matrix.Right(m) {
			t.Errorf("%d by %d, %d cells, is right", m.Rows, m.Cols, len(m.Cells))
		}
	}
}

// TestRightSides: all sides round their bounds, with as many cells as both multiplied, one more, and one less.
func TestRightSides(t *testing.T) {
	sides := []int{-2, -1, 0, 1, 2, 3, 255, 256, 299, 300, 301, 302}
	for _, rows := range sides {
		for _, cols := range sides {
			for _, more := range []int{-1, 0, 1} {
				long := rows*cols + more
				if long < 0 {
					continue
				}
				want := more == 0 && rows >= 0 && rows <= 300 && cols >= 0 && cols <= 300
				if got := matrix.Right(api.Matrix{Rows: rows, Cols: cols, Cells: make([]byte, long)}); got != want {
					t.Errorf("Right of %d by %d, %d cells = %v", rows, cols, long, got)
				}
			}
		}
	}
}

// TestRightBehind: what lies behind the cells' length is none of them.
func TestRightBehind(t *testing.T) {
	cells := make([]byte, 6, 60)
	for long := range 12 {
		if got := matrix.Right(api.Matrix{Rows: 2, Cols: 3, Cells: cells[:long]}); got != (long == 6) {
			t.Errorf("Right of 2 by 3, %d cells of 60 = %v", long, got)
		}
	}
}

func TestOfKnown(t *testing.T) {
	for _, c := range []struct {
		rows [][]byte
		want api.Matrix
	}{
		{nil, api.Matrix{}},
		{[][]byte{}, api.Matrix{}},
		{[][]byte{nil}, api.Matrix{Rows: 1}},
		{[][]byte{{}, nil, {}}, api.Matrix{Rows: 3}},
		{[][]byte{{7}}, api.Matrix{Rows: 1, Cols: 1, Cells: []byte{7}}},
		{[][]byte{{1, 2}}, api.Matrix{Rows: 1, Cols: 2, Cells: []byte{1, 2}}},
		{[][]byte{{1}, {2}}, api.Matrix{Rows: 2, Cols: 1, Cells: []byte{1, 2}}},
		{[][]byte{{0, 1, 2}, {3, 4, 0}}, api.Matrix{Rows: 2, Cols: 3, Cells: []byte{0, 1, 2, 3, 4, 0}}},
	} {
		if got, ok := matrix.Of(c.rows); !ok || !plain.SameMatrix(got, c.want) {
			t.Errorf("Of(%X) = %v, %v, not %v", c.rows, got, ok, c.want)
		}
	}
}

// TestOf: the rows of all matrices, up to 300 by 300, tell them again.
func TestOf(t *testing.T) {
	for _, m := range append(plain.Matrices(), plain.Sized(1, 300, 300)) {
		if m.Rows == 0 {
			continue // No rows say nothing of how long they are.
		}
		if got, ok := matrix.Of(cut(m)); !ok || !plain.SameMatrix(got, m) {
			t.Errorf("Of the rows of %d by %d = %v, %v", m.Rows, m.Cols, got, ok)
		}
	}
}

// TestOfUnlike: one row, be it the first, the last or between, is longer or shorter than the others.
func TestOfUnlike(t *testing.T) {
	for _, size := range plain.Sizes() {
		rows, cols := size[0], size[1]
		if rows < 2 {
			continue
		}
		for _, at := range []int{0, rows / 2, rows - 1} {
			for _, long := range []int{0, cols - 1, cols + 1, 2 * cols, cols + 300} {
				if long < 0 || long == cols {
					continue
				}
				list := cut(plain.Sized(3, rows, cols))
				list[at] = plain.Mixed(5, long)
				if got, ok := matrix.Of(list); ok || !plain.NoMatrix(got) {
					t.Errorf("Of %d rows of %d, but one of %d at %d = %v, %v", rows, cols, long, at, got, ok)
				}
			}
		}
	}
}

// TestOfUnlikeSum: rows of unlike lengths that have as many cells as rows of one length would.
func TestOfUnlikeSum(t *testing.T) {
	for _, rows := range [][][]byte{{{1, 2}, {3}, {4, 5, 6}}, {{1, 2}, {3, 4, 5}, {6}}, {{1}, nil, {2, 3}}, {nil, {1}}, {{1}, nil}, {{1, 2}, {3, 4}, nil, {5, 6, 7, 8}}} {
		if got, ok := matrix.Of(rows); ok || !plain.NoMatrix(got) {
			t.Errorf("Of(%X) = %v, %v", rows, got, ok)
		}
	}
}

// TestOfTooMany: more than 300 rows, or longer ones.
func TestOfTooMany(t *testing.T) {
	for _, size := range [][2]int{{301, 0}, {301, 1}, {301, 2}, {301, 300}, {1, 301}, {2, 301}, {300, 301}, {301, 301}, {1, 90000}, {90000, 1}, {90000, 0}, {1 << 16, 0}, {1, 1 << 16}} {
		if got, ok := matrix.Of(slices.Repeat([][]byte{make([]byte, size[1])}, size[0])); ok || !plain.NoMatrix(got) {
			t.Errorf("Of %d rows of %d = %v, %v", size[0], size[1], got, ok)
		}
	}
}

func TestOne(t *testing.T) {
	for _, n := range []int{0, 1, 2, 3, 64, 65, 255, 256, 299, 300} {
		got := matrix.One(n)
		if got.Rows != n || got.Cols != n || len(got.Cells) != n*n {
			t.Fatalf("One(%d) is %d by %d, %d cells", n, got.Rows, got.Cols, len(got.Cells))
		}
		for i := range n {
			for j := range n {
				if cell := plain.Cell(got, i, j); (i == j) != (cell == 1) || cell > 1 {
					t.Fatalf("One(%d) has %02X at %d, %d", n, cell, i, j)
				}
			}
		}
	}
	for _, n := range []int{-1, -2, -300, 301, 302, 1000, 1 << 16, 1 << 31, 1 << 32, -1 << 32, 1<<32 + 1, math.MaxInt, math.MinInt, math.MinInt + 1} {
		if got := matrix.One(n); !plain.NoMatrix(got) {
			t.Errorf("One(%d) is %d by %d, %d cells", n, got.Rows, got.Cols, len(got.Cells))
		}
	}
}

// far are numbers of rows that no matrix has, among them some that come round when they are multiplied.
func far() []int {
	return []int{-1, -2, -300, 301, 1 << 31, 1 << 32, 1<<32 + 1, -1 << 32, 1 << 62, 1 << 61, math.MaxInt, math.MaxInt - 1, math.MinInt, math.MinInt + 1}
}

func TestRow(t *testing.T) {
	for _, m := range append(plain.Matrices(), plain.Sized(1, 300, 300)) {
		for i, want := range cut(m) {
			if got := matrix.Row(m, i); !bytes.Equal(got, want) {
				t.Errorf("Row %d of %d by %d = %X, not %X", i, m.Rows, m.Cols, got, want)
			}
		}
		for _, i := range append(far(), m.Rows, m.Rows+1, m.Rows+m.Cols, -m.Rows-1) {
			if got := matrix.Row(m, i); len(got) != 0 {
				t.Errorf("Row %d of %d by %d = %X", i, m.Rows, m.Cols, got)
			}
		}
	}
}

func TestRowOfCrooked(t *testing.T) {
	for _, m := range plain.Crooked() {
		for _, i := range append(far(), 0, 1, m.Rows-1, m.Rows) {
			if got := matrix.Row(m, i); len(got) != 0 {
				t.Errorf("Row %d of %d by %d, %d cells = %X", i, m.Rows, m.Cols, len(m.Cells), got)
			}
		}
	}
}

func TestTurnKnown(t *testing.T) {
	for _, c := range []struct{ m, want api.Matrix }{
		{api.Matrix{}, api.Matrix{}},
		{api.Matrix{Rows: 3}, api.Matrix{Cols: 3}},
		{api.Matrix{Cols: 300}, api.Matrix{Rows: 300}},
		{of(t, []byte{9}), of(t, []byte{9})},
		{of(t, []byte{1, 2, 3}), of(t, []byte{1}, []byte{2}, []byte{3})},
		{of(t, []byte{1, 2}, []byte{3, 4}), of(t, []byte{1, 3}, []byte{2, 4})},
		{of(t, []byte{1, 2, 3}, []byte{4, 5, 6}), of(t, []byte{1, 4}, []byte{2, 5}, []byte{3, 6})},
		{matrix.One(300), matrix.One(300)},
	} {
		if got := matrix.Turn(c.m); !plain.SameMatrix(got, c.want) {
			t.Errorf("Turn(%v) = %v, not %v", c.m, got, c.want)
		}
	}
}

// TestTurn: of all matrices, and twice; of those that are not right nothing.
func TestTurn(t *testing.T) {
	for _, m := range append(plain.Matrices(), plain.Sized(1, 300, 300)) {
		got := matrix.Turn(m)
		if !plain.SameMatrix(got, plain.Turned(m)) {
			t.Errorf("Turn of %d by %d = %v", m.Rows, m.Cols, got)
		}
		if !plain.SameMatrix(matrix.Turn(got), m) {
			t.Errorf("%d by %d, turned twice, is another one", m.Rows, m.Cols)
		}
	}
	for _, m := range plain.Crooked() {
		if got := matrix.Turn(m); !plain.NoMatrix(got) {
			t.Errorf("Turn of %d by %d, %d cells = %v", m.Rows, m.Cols, len(m.Cells), got)
		}
	}
}

func TestAddKnown(t *testing.T) {
	a, b := of(t, []byte{1, 2}, []byte{0xFF, 0}), of(t, []byte{1, 4}, []byte{0x0F, 0})
	if got, ok := matrix.Add(a, b); !ok || !plain.SameMatrix(got, of(t, []byte{0, 6}, []byte{0xF0, 0})) {
		t.Errorf("Add(%v, %v) = %v, %v", a, b, got, ok)
	}
}

// TestAdd: all matrices with all of them: a sum, where the sides are the same, and else nothing, be there as many cells or not.
func TestAdd(t *testing.T) {
	for _, a := range plain.Matrices() {
		for _, b := range plain.Matrices() {
			got, ok := matrix.Add(a, b)
			if a.Rows != b.Rows || a.Cols != b.Cols {
				if ok || !plain.NoMatrix(got) {
					t.Errorf("Add of %d by %d and %d by %d = %v, %v", a.Rows, a.Cols, b.Rows, b.Cols, got, ok)
				}
				continue
			}
			want := api.Matrix{Rows: a.Rows, Cols: a.Cols, Cells: sumPlain(a.Cells, b.Cells)}
			if !ok || !plain.SameMatrix(got, want) {
				t.Errorf("Add(%v, %v) = %v, %v, not %v", a, b, got, ok, want)
			}
		}
	}
}

// TestAddSizes: sums of two unlike matrices of each size, in either order, with noughts, and with itself.
func TestAddSizes(t *testing.T) {
	for _, size := range append(plain.Sizes(), [2]int{300, 300}) {
		a, b := plain.Sized(1, size[0], size[1]), plain.Sized(2, size[0], size[1])
		noughts := api.Matrix{Rows: size[0], Cols: size[1], Cells: make([]byte, size[0]*size[1])}
		sum := api.Matrix{Rows: size[0], Cols: size[1], Cells: sumPlain(a.Cells, b.Cells)}
		for _, c := range []struct{ a, b, want api.Matrix }{{a, b, sum}, {b, a, sum}, {a, sum, b}, {a, noughts, a}, {noughts, a, a}, {a, a, noughts}} {
			if got, ok := matrix.Add(c.a, c.b); !ok || !plain.SameMatrix(got, c.want) {
				t.Errorf("a sum of %d by %d is another one, %v", size[0], size[1], ok)
			}
		}
	}
}

// TestCrooked: sums and products with a matrix that is not right, on either side or on both, also where the sides fit.
func TestCrooked(t *testing.T) {
	for _, m := range plain.Crooked() {
		others := append(plain.Crooked(), m, matrix.One(min(max(m.Rows, 0), 300)), matrix.One(min(max(m.Cols, 0), 300)))
		for _, size := range [][2]int{{m.Rows, m.Cols}, {m.Cols, m.Rows}} {
			if size[0] >= 0 && size[0] <= 300 && size[1] >= 0 && size[1] <= 300 {
				others = append(others, plain.Sized(1, size[0], size[1]))
			}
		}
		for _, other := range others {
			for _, pair := range [][2]api.Matrix{{m, other}, {other, m}} {
				if got, ok := matrix.Add(pair[0], pair[1]); ok || !plain.NoMatrix(got) {
					t.Errorf("Add of %d by %d and %d by %d = %v, %v", pair[0].Rows, pair[0].Cols, pair[1].Rows, pair[1].Cols, got, ok)
				}
				for name, f := range fields() {
					if got, ok := matrix.Mul(f, pair[0], pair[1]); ok || !plain.NoMatrix(got) {
						t.Errorf("%s: Mul of %d by %d and %d by %d = %v, %v", name, pair[0].Rows, pair[0].Cols, pair[1].Rows, pair[1].Cols, got, ok)
					}
				}
			}
		}
	}
}

// TestTimesCrooked: whatever the column's length is, also if it is that of the columns, or of what they would be.
func TestTimesCrooked(t *testing.T) {
	for _, m := range plain.Crooked() {
		for _, long := range []int{0, 1, 2, 5, 300, 301, m.Cols, m.Rows, len(m.Cells)} {
			if long < 0 || long > 100000 {
				continue
			}
			for name, f := range fields() {
				if got, ok := matrix.Times(f, m, plain.Mixed(1, long)); ok || len(got) != 0 {
					t.Errorf("%s: Times of %d by %d, %d cells, and %d = %X, %v", name, m.Rows, m.Cols, len(m.Cells), long, got, ok)
				}
			}
		}
	}
}

func TestMulKnown(t *testing.T) {
	for name, f := range fields() {
		for _, c := range []struct{ a, b, want api.Matrix }{
			{api.Matrix{}, api.Matrix{}, api.Matrix{}},
			{api.Matrix{Rows: 2}, api.Matrix{Cols: 3}, api.Matrix{Rows: 2, Cols: 3, Cells: make([]byte, 6)}},
			{api.Matrix{Cols: 3}, api.Matrix{Rows: 3}, api.Matrix{}},
			{api.Matrix{Rows: 300}, api.Matrix{Cols: 300}, api.Matrix{Rows: 300, Cols: 300, Cells: make([]byte, 90000)}},
			{api.Matrix{Cols: 2}, of(t, []byte{1, 2, 3}, []byte{4, 5, 6}), api.Matrix{Cols: 3}},
			{of(t, []byte{1, 2}), api.Matrix{Rows: 2}, api.Matrix{Rows: 1}},
			{of(t, []byte{0x80}), of(t, []byte{2}), of(t, []byte{0x1D})},
			{of(t, []byte{1, 2}), of(t, []byte{3}, []byte{4}), of(t, []byte{0x0B})},
			{of(t, []byte{3}, []byte{4}), of(t, []byte{1, 2}), of(t, []byte{3, 6}, []byte{4, 8})},
			{of(t, []byte{1, 2}, []byte{0, 1}), of(t, []byte{1, 0}, []byte{2, 1}), of(t, []byte{5, 2}, []byte{2, 1})},
			{of(t, []byte{1, 0}, []byte{2, 1}), of(t, []byte{1, 2}, []byte{0, 1}), of(t, []byte{1, 2}, []byte{2, 5})},
			{of(t, []byte{0, 1}, []byte{1, 0}), of(t, []byte{7, 8, 9}, []byte{4, 5, 6}), of(t, []byte{4, 5, 6}, []byte{7, 8, 9})},
		} {
			if got, ok := matrix.Mul(f, c.a, c.b); !ok || !plain.SameMatrix(got, c.want) {
				t.Errorf("%s: Mul(%v, %v) = %v, %v, not %v", name, c.a, c.b, got, ok, c.want)
			}
		}
	}
}

// TestMul: all matrices with all of them: a product, where the sizes fit, and else nothing.
func TestMul(t *testing.T) {
	for _, a := range plain.Matrices() {
		for _, b := range plain.Matrices() {
			fits := a.Cols == b.Rows
			var want api.Matrix
			if fits {
				want = plain.MatrixProduct(a, b)
			}
			for name, f := range fields() {
				if got, ok := matrix.Mul(f, a, b); ok != fits || !plain.SameMatrix(got, want) {
					t.Errorf("%s: Mul of %d by %d and %d by %d is another one, %v", name, a.Rows, a.Cols, b.Rows, b.Cols, ok)
				}
			}
		}
	}
}

// TestMulNextTo: sizes that do not fit by one, or that fit in the other order alone.
func TestMulNextTo(t *testing.T) {
	for name, f := range fields() {
		for _, c := range [][4]int{{2, 3, 2, 3}, {2, 3, 4, 2}, {2, 3, 2, 2}, {3, 2, 3, 2}, {0, 1, 0, 1}, {1, 0, 1, 0}, {5, 0, 1, 5}, {5, 1, 0, 5}, {299, 300, 299, 300}, {1, 300, 299, 1}, {4, 6, 4, 4}} {
			if got, ok := matrix.Mul(f, plain.Sized(1, c[0], c[1]), plain.Sized(2, c[2], c[3])); ok || !plain.NoMatrix(got) {
				t.Errorf("%s: Mul of sizes %v = %v, %v", name, c, got, ok)
			}
		}
	}
}

// TestMulGreatest: 300 by 300 with what is turned of it.
func TestMulGreatest(t *testing.T) {
	a := plain.Sized(1, 300, 300)
	b := plain.Turned(a)
	want := plain.MatrixProduct(a, b)
	for name, f := range fields() {
		if got, ok := matrix.Mul(f, a, b); !ok || !plain.SameMatrix(got, want) {
			t.Errorf("%s: 300 by 300 and what is turned of it have another product, %v", name, ok)
		}
	}
}

// TestMulOne: One on either side changes nothing.
func TestMulOne(t *testing.T) {
	for name, f := range fields() {
		for _, m := range plain.Matrices() {
			if got, ok := matrix.Mul(f, matrix.One(m.Rows), m); !ok || !plain.SameMatrix(got, m) {
				t.Errorf("%s: One times %d by %d is another one, %v", name, m.Rows, m.Cols, ok)
			}
			if got, ok := matrix.Mul(f, m, matrix.One(m.Cols)); !ok || !plain.SameMatrix(got, m) {
				t.Errorf("%s: %d by %d times One is another one, %v", name, m.Rows, m.Cols, ok)
			}
		}
	}
}

// mul is a product that there has to be.
func mul(t *testing.T, f *field.Field, a, b api.Matrix) api.Matrix {
	t.Helper()
	m, ok := matrix.Mul(f, a, b)
	if !ok {
		t.Fatalf("Mul of %d by %d and %d by %d is none", a.Rows, a.Cols, b.Rows, b.Cols)
	}
	return m
}

// fourSides are sizes of three matrices that fit one another.
func fourSides() [][4]int {
	return [][4]int{{0, 0, 0, 0}, {1, 1, 1, 1}, {2, 0, 3, 4}, {2, 3, 0, 4}, {0, 2, 3, 4}, {2, 3, 4, 0}, {2, 3, 4, 5}, {5, 4, 3, 2}, {7, 7, 7, 7},
		{1, 64, 65, 1}, {65, 1, 1, 64}, {33, 70, 20, 41}, {300, 1, 300, 1}, {1, 300, 1, 300}, {3, 129, 2, 255}}
}

// TestMulOfThree: the product of three is the same, whichever two are multiplied first.
func TestMulOfThree(t *testing.T) {
	for name, f := range fields() {
		for _, n := range fourSides() {
			a, b, c := plain.Sized(1, n[0], n[1]), plain.Sized(2, n[1], n[2]), plain.Sized(3, n[2], n[3])
			left := mul(t, f, mul(t, f, a, b), c)
			right := mul(t, f, a, mul(t, f, b, c))
			if !plain.SameMatrix(left, right) || left.Rows != n[0] || left.Cols != n[3] {
				t.Errorf("%s: the product of three, sides %v, hangs on which are first", name, n)
			}
		}
	}
}

// TestMulOfSums: a product with a sum is the sum of both products, on either side.
func TestMulOfSums(t *testing.T) {
	for name, f := range fields() {
		for _, n := range fourSides() {
			a, b, c, d := plain.Sized(1, n[0], n[1]), plain.Sized(2, n[1], n[2]), plain.Sized(3, n[1], n[2]), plain.Sized(4, n[2], n[3])
			sum, _ := matrix.Add(b, c)
			before, ok := matrix.Add(mul(t, f, a, b), mul(t, f, a, c))
			if !ok || !plain.SameMatrix(mul(t, f, a, sum), before) {
				t.Errorf("%s: a product with a sum, sides %v, is another one", name, n)
			}
			behind, ok := matrix.Add(mul(t, f, b, d), mul(t, f, c, d))
			if !ok || !plain.SameMatrix(mul(t, f, sum, d), behind) {
				t.Errorf("%s: a product of a sum, sides %v, is another one", name, n)
			}
		}
	}
}

// TestMulTurned: a product, turned, is that of both turned, in the other order.
func TestMulTurned(t *testing.T) {
	for name, f := range fields() {
		for _, n := range fourSides() {
			a, b := plain.Sized(1, n[0], n[1]), plain.Sized(2, n[1], n[2])
			if got := mul(t, f, matrix.Turn(b), matrix.Turn(a)); !plain.SameMatrix(got, matrix.Turn(mul(t, f, a, b))) {
				t.Errorf("%s: a product, sides %v, turned is another one", name, n)
			}
		}
	}
}

func TestTimesKnown(t *testing.T) {
	for name, f := range fields() {
		for _, c := range []struct {
			m       api.Matrix
			v, want []byte
		}{
			{api.Matrix{}, nil, nil},
			{api.Matrix{}, []byte{}, nil},
			{api.Matrix{Rows: 3}, nil, []byte{0, 0, 0}},
			{api.Matrix{Rows: 300}, []byte{}, make([]byte, 300)},
			{api.Matrix{Cols: 3}, []byte{1, 2, 3}, nil},
			{of(t, []byte{0x80}), []byte{2}, []byte{0x1D}},
			{of(t, []byte{1, 1}, []byte{0, 2}), []byte{1, 2}, []byte{3, 4}},
			{of(t, []byte{1, 2, 3}), []byte{1, 1, 1}, []byte{0}},
			{of(t, []byte{1}, []byte{2}, []byte{3}), []byte{2}, []byte{2, 4, 6}},
			{of(t, []byte{1, 2}, []byte{3, 4}), []byte{0, 0}, []byte{0, 0}},
		} {
			if got, ok := matrix.Times(f, c.m, c.v); !ok || !bytes.Equal(got, c.want) {
				t.Errorf("%s: Times(%v, %X) = %X, %v, not %X", name, c.m, c.v, got, ok, c.want)
			}
		}
	}
}

// TestTimes: all matrices with columns as long as they must be: what the product with a matrix of one column has.
func TestTimes(t *testing.T) {
	for name, f := range fields() {
		for seed, m := range append(plain.Matrices(), plain.Sized(1, 300, 300)) {
			for _, v := range [][]byte{plain.Mixed(seed, m.Cols), make([]byte, m.Cols), slices.Repeat([]byte{0xFF}, m.Cols)} {
				got, ok := matrix.Times(f, m, v)
				if !ok || !bytes.Equal(got, plain.MatrixProduct(m, plain.Column(v)).Cells) || !bytes.Equal(got, mul(t, f, m, plain.Column(v)).Cells) {
					t.Errorf("%s: Times of %d by %d and %X = %X, %v", name, m.Rows, m.Cols, v, got, ok)
				}
			}
		}
	}
}

// TestTimesUnlike: columns that are longer or shorter, by one and by many, also if they are as long as there are rows, or noughts.
func TestTimesUnlike(t *testing.T) {
	for name, f := range fields() {
		for _, m := range append(plain.Matrices(), plain.Sized(1, 300, 300)) {
			for _, long := range []int{0, 1, m.Cols - 1, m.Cols + 1, m.Cols + 64, 2*m.Cols + 1, m.Rows, 300, 301, len(m.Cells)} {
				if long < 0 || long == m.Cols {
					continue
				}
				for _, v := range [][]byte{plain.Mixed(2, long), make([]byte, long), make([]byte, long, long+300)} {
					if got, ok := matrix.Times(f, m, v); ok || len(got) != 0 {
						t.Errorf("%s: Times of %d by %d and %d = %X, %v", name, m.Rows, m.Cols, long, got, ok)
					}
				}
			}
		}
	}
}

// TestTimesOneByOne: a column by a product is the column by one factor after the other.
func TestTimesOneByOne(t *testing.T) {
	for name, f := range fields() {
		for seed, n := range fourSides() {
			a, b, v := plain.Sized(1, n[0], n[1]), plain.Sized(2, n[1], n[2]), plain.Mixed(seed, n[2])
			inner, _ := matrix.Times(f, b, v)
			want, ok := matrix.Times(f, a, inner)
			if got, is := matrix.Times(f, mul(t, f, a, b), v); !ok || !is || !bytes.Equal(got, want) {
				t.Errorf("%s: a column by a product, sides %v, is another one", name, n)
			}
		}
	}
}

func TestSame(t *testing.T) {
	all := append(append(plain.Matrices(), plain.Crooked()...), plain.Sized(1, 300, 300))
	for i, a := range all {
		if !matrix.Same(a, a) || !matrix.Same(a, plain.CopiedMatrix(a)) {
			t.Errorf("%d by %d, %d cells, is not the same as itself", a.Rows, a.Cols, len(a.Cells))
		}
		for j, b := range all {
			if got := matrix.Same(a, b); got != plain.SameMatrix(a, b) {
				t.Errorf("Same of number %d and number %d = %v", i, j, got)
			}
		}
	}
}

// TestSameEach: one field or cell is another one.
func TestSameEach(t *testing.T) {
	for _, m := range append(plain.Matrices(), plain.Crooked()...) {
		rows, cols, more := m, m, plain.CopiedMatrix(m)
		rows.Rows++
		cols.Cols--
		more.Cells = append(more.Cells, 0)
		others := []api.Matrix{rows, cols, more}
		if n := len(m.Cells); n > 0 {
			fewer := m
			fewer.Cells = m.Cells[:n-1]
			others = append(others, fewer)
			for _, at := range []int{0, n / 2, n - 1} {
				other := plain.CopiedMatrix(m)
				other.Cells[at] ^= 1
				others = append(others, other)
			}
		}
		for i, other := range others {
			if matrix.Same(m, other) || matrix.Same(other, m) {
				t.Errorf("%d by %d, %d cells, is the same as the other %d", m.Rows, m.Cols, len(m.Cells), i)
			}
		}
	}
}

// TestSameKnown: cells that are nil and none are the same; the same cells laid otherwise are not.
func TestSameKnown(t *testing.T) {
	for _, c := range []struct {
		a, b api.Matrix
		want bool
	}{
		{api.Matrix{}, api.Matrix{Cells: []byte{}}, true},
		{api.Matrix{Rows: 3}, api.Matrix{Rows: 3, Cells: []byte{}}, true},
		{api.Matrix{Rows: 3}, api.Matrix{Cols: 3}, false},
		{api.Matrix{Rows: 3}, api.Matrix{}, false},
		{api.Matrix{Rows: 2, Cols: 3, Cells: make([]byte, 6)}, api.Matrix{Rows: 3, Cols: 2, Cells: make([]byte, 6)}, false},
		{api.Matrix{Rows: 1, Cols: 4, Cells: make([]byte, 4)}, api.Matrix{Rows: 2, Cols: 2, Cells: make([]byte, 4)}, false},
		{api.Matrix{Rows: -1, Cols: 400, Cells: []byte{1}}, api.Matrix{Rows: -1, Cols: 400, Cells: []byte{1}}, true},
		{api.Matrix{Rows: -1, Cols: 400, Cells: []byte{1}}, api.Matrix{Rows: -1, Cols: 400, Cells: []byte{2}}, false},
	} {
		if matrix.Same(c.a, c.b) != c.want || matrix.Same(c.b, c.a) != c.want {
			t.Errorf("Same(%v, %v) is not %v", c.a, c.b, c.want)
		}
	}
}

// TestToldIsRight: whatever matrix is told.
func TestToldIsRight(t *testing.T) {
	f := field.Of(api.Table)
	for _, m := range append(plain.Matrices(), plain.Crooked()...) {
		sum, _ := matrix.Add(m, m)
		product, _ := matrix.Mul(f, m, matrix.Turn(m))
		rows, _ := matrix.Of([][]byte{m.Cells, m.Cells})
		for i, told := range []api.Matrix{sum, product, rows, matrix.Turn(m), matrix.One(m.Rows)} {
			if !matrix.Right(told) {
				t.Errorf("of %d by %d, %d cells, number %d is not right", m.Rows, m.Cols, len(m.Cells), i)
			}
		}
	}
}

// told is all cells that are told of a matrix that is right, and of a column.
func told(f *field.Field, m api.Matrix, v []byte) map[string][]byte {
	turned := matrix.Turn(m)
	sum, _ := matrix.Add(m, m)
	square, _ := matrix.Mul(f, m, turned)
	whole, _ := matrix.Mul(f, m, matrix.One(m.Cols))
	of, _ := matrix.Of(cut(m))
	l := map[string][]byte{
		"Of":          of.Cells,
		"One":         matrix.One(m.Rows).Cells,
		"Row, first":  matrix.Row(m, 0),
		"Row, last":   matrix.Row(m, m.Rows-1),
		"Turn":        turned.Cells,
		"Turn, twice": matrix.Turn(turned).Cells,
		"Add":         sum.Cells,
		"Mul":         square.Cells,
		"Mul by One":  whole.Cells,
	}
	l["Times"], _ = matrix.Times(f, m, v)
	l["Times, of one row"], _ = matrix.Times(f, api.Matrix{Rows: 1, Cols: len(v), Cells: v}, v)
	l["Of, the column"] = nil
	if column, ok := matrix.Of([][]byte{v}); ok {
		l["Of, the column"] = column.Cells
	}
	return l
}

// TestHandedInStays: cells, rows and columns are as they were, and so is what lies behind their length; none of it is read or told.
func TestHandedInStays(t *testing.T) {
	for name, f := range fields() {
		for seed, m := range plain.Matrices() {
			v := plain.Mixed(seed, m.Cols)
			wholeM, innerM := plain.FramedMatrix(m)
			wholeV, innerV := plain.Framed(v)
			wasM, wasV := slices.Clone(wholeM), slices.Clone(wholeV)
			if call, same := plain.Alike(told(f, m, v), told(f, innerM, innerV)); !same {
				t.Errorf("%s: %s reads behind %d by %d", name, call, m.Rows, m.Cols)
			}
			if !matrix.Right(innerM) || !matrix.Same(m, innerM) {
				t.Errorf("%s: Right or Same reads behind %d by %d", name, m.Rows, m.Cols)
			}
			if !bytes.Equal(wholeM, wasM) || !bytes.Equal(wholeV, wasV) {
				t.Errorf("%s: %d by %d was changed", name, m.Rows, m.Cols)
			}
		}
	}
}

// TestRowsStay: the list of rows that Of is handed, and what lies behind it.
func TestRowsStay(t *testing.T) {
	rows := [][]byte{{1, 2}, {3, 4}, {5, 6}, {7}, {8, 9}}
	was := slices.Clone(rows)
	if got, ok := matrix.Of(rows[:3]); !ok || !plain.SameMatrix(got, api.Matrix{Rows: 3, Cols: 2, Cells: []byte{1, 2, 3, 4, 5, 6}}) {
		t.Errorf("Of the first three of %X = %v, %v", rows, got, ok)
	}
	if !slices.EqualFunc(rows, was, bytes.Equal) {
		t.Errorf("the rows are %X, and were %X", rows, was)
	}
}

// TestToldIsNew: what is told stays, whatever becomes of what was handed in or of what was told beside it.
func TestToldIsNew(t *testing.T) {
	for name, f := range fields() {
		for seed, m := range plain.Matrices() {
			wholeM, innerM := plain.FramedMatrix(m)
			wholeV, innerV := plain.Framed(plain.Mixed(seed, m.Cols))
			first := told(f, innerM, innerV)
			want := plain.Copied(first)
			for _, l := range told(f, innerM, innerV) {
				clear(l[:cap(l)])
			}
			clear(wholeM)
			clear(wholeV)
			if call, same := plain.Alike(want, first); !same {
				t.Errorf("%s: %s of %d by %d shares memory with what was handed in or told before", name, call, m.Rows, m.Cols)
			}
			for call, l := range first {
				clear(l[:cap(l)])
				want[call] = make([]byte, len(l))
				if other, same := plain.Alike(want, first); !same {
					t.Errorf("%s: %s and %s of %d by %d share memory", name, call, other, m.Rows, m.Cols)
				}
			}
		}
	}
}

// TestToldIsFarFromBehind: what is told may be written to its capacity's end, and what was handed in stays.
func TestToldIsFarFromBehind(t *testing.T) {
	for name, f := range fields() {
		for seed, m := range plain.Matrices() {
			wholeM, innerM := plain.FramedMatrix(m)
			wholeV, innerV := plain.Framed(plain.Mixed(seed, m.Cols))
			wasM, wasV := slices.Clone(wholeM), slices.Clone(wholeV)
			for call, l := range told(f, innerM, innerV) {
				plain.Spoil(l)
				if !bytes.Equal(wholeM, wasM) || !bytes.Equal(wholeV, wasV) {
					t.Fatalf("%s: %s of %d by %d hands out what was handed in", name, call, m.Rows, m.Cols)
				}
			}
		}
	}
}

// TestOneHandedInTwice: cells that are handed in twice, or are the column's, too, are taken as equal ones are.
func TestOneHandedInTwice(t *testing.T) {
	for name, f := range fields() {
		for _, m := range []api.Matrix{plain.Sized(1, 1, 1), plain.Sized(2, 5, 5), plain.Sized(3, 65, 65)} {
			was := plain.CopiedMatrix(m)
			if got := mul(t, f, m, m); !plain.SameMatrix(got, plain.MatrixProduct(was, was)) {
				t.Errorf("%s: the square of %v = %v", name, was, got)
			}
			if got, ok := matrix.Times(f, m, m.Cells[:m.Cols]); !ok || !bytes.Equal(got, plain.MatrixProduct(was, plain.Column(was.Cells[:m.Cols])).Cells) {
				t.Errorf("%s: %v times its first row = %X, %v", name, was, got, ok)
			}
			if !plain.SameMatrix(m, was) {
				t.Errorf("%s: %v was changed", name, was)
			}
		}
	}
}

// TestNilField: nothing, false, also where there are no cells to multiply; the other calls need none.
func TestNilField(t *testing.T) {
	for _, m := range append(plain.Matrices(), plain.Crooked()...) {
		for _, other := range []api.Matrix{matrix.Turn(m), m, {}, matrix.One(min(max(m.Cols, 0), 300))} {
			if got, ok := matrix.Mul(nil, m, other); ok || !plain.NoMatrix(got) {
				t.Errorf("Mul by nil of %d by %d and %d by %d = %v, %v", m.Rows, m.Cols, other.Rows, other.Cols, got, ok)
			}
		}
		for _, long := range []int{0, 1, min(max(m.Cols, 0), 300)} {
			if got, ok := matrix.Times(nil, m, plain.Mixed(1, long)); ok || len(got) != 0 {
				t.Errorf("Times by nil of %d by %d and %d = %X, %v", m.Rows, m.Cols, long, got, ok)
			}
		}
	}
}

// TestSeveralAtATime: many ask by one field; run with -race it tells more.
func TestSeveralAtATime(t *testing.T) {
	m, v := plain.Sized(1, 20, 90), plain.Mixed(1, 90)
	for name, f := range fields() {
		want := told(field.Of(api.Shift), m, v)
		var all sync.WaitGroup
		wrong := make([]bool, 8)
		for who := range wrong {
			all.Go(func() {
				_, same := plain.Alike(want, told(f, m, v))
				wrong[who] = !same
			})
		}
		all.Wait()
		if slices.Contains(wrong, true) {
			t.Errorf("%s: several at a time were told otherwise", name)
		}
	}
}
