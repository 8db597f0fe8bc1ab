package gauss_test

import (
	"bytes"
	"slices"
	"testing"

	"erratum/api"
	"erratum/field"
	"erratum/gauss"
	"erratum/matrix"
	"erratum/plain"
)

func TestExample(t *testing.T) {
	for name, f := range fields() {
		if got, ok := gauss.Solve(f, of([]byte{1, 1}, []byte{0, 2}), []byte{3, 4}); !ok || !bytes.Equal(got, []byte{1, 2}) {
			t.Errorf("%s: Solve of the rows 1, 1 and 0, 2 with 3, 4 = %X, %v, not 1, 2", name, got, ok)
		}
	}
}

func TestEchelonKnown(t *testing.T) {
	for name, f := range fields() {
		for _, c := range []struct {
			m, want api.Matrix
			leads   []int
		}{
			{api.Matrix{}, api.Matrix{}, nil},
			{api.Matrix{Rows: 4}, api.Matrix{Rows: 4}, nil},
			{api.Matrix{Cols: 4}, api.Matrix{Cols: 4}, nil},
			{api.Matrix{Rows: 300}, api.Matrix{Rows: 300}, nil},
			{api.Matrix{Cols: 300}, api.Matrix{Cols: 300}, nil},
			{of([]byte{0}), of([]byte{0}), nil},
			{of([]byte{0x35}), of([]byte{1}), []int{0}},
			{of([]byte{0, 2, 4}), of([]byte{0, 1, 2}), []int{1}},
			{of([]byte{0}, []byte{7}, []byte{3}), of([]byte{1}, []byte{0}, []byte{0}), []int{0}},
			{of([]byte{1, 1}, []byte{0, 2}), of([]byte{1, 0}, []byte{0, 1}), []int{0, 1}},
			{of([]byte{0, 1}, []byte{1, 0}), of([]byte{1, 0}, []byte{0, 1}), []int{0, 1}},
			{of([]byte{2, 4, 6}, []byte{1, 2, 3}), of([]byte{1, 2, 3}, []byte{0, 0, 0}), []int{0}},
			{of([]byte{0, 0, 3}, []byte{0, 2, 1}), of([]byte{0, 1, 0}, []byte{0, 0, 1}), []int{1, 2}},
			{of([]byte{1, 0, 7}, []byte{0, 0, 1}), of([]byte{1, 0, 0}, []byte{0, 0, 1}), []int{0, 2}},
			{of([]byte{1, 3, 7, 1}, []byte{1, 3, 7, 2}), of([]byte{1, 3, 7, 0}, []byte{0, 0, 0, 1}), []int{0, 3}},
			{of([]byte{0, 0, 0}, []byte{0, 1, 5}, []byte{0, 0, 0}), of([]byte{0, 1, 5}, []byte{0, 0, 0}, []byte{0, 0, 0}), []int{1}},
		} {
			if got, leads := gauss.Echelon(f, c.m); !plain.SameMatrix(got, c.want) || !slices.Equal(leads, c.leads) {
				t.Errorf("%s: Echelon(%v) = %v, %v, not %v, %v", name, c.m, got, leads, c.want, c.leads)
			}
		}
	}
}

// isReduced says whether a matrix is as the chapter says it, and these are the columns of its LEADS.
func isReduced(m api.Matrix, leads []int) bool {
	last := -1
	for i, row := range plain.RowsOf(m) {
		at := plain.FirstNot0(row)
		if i >= len(leads) {
			if at < m.Cols {
				return false
			}
			continue
		}
		if at != leads[i] || at <= last || at == m.Cols || row[at] != 1 {
			return false
		}
		last = at
		for k := range m.Rows {
			if k != i && plain.Cell(m, k, at) != 0 {
				return false
			}
		}
	}
	return len(leads) <= m.Rows
}

// TestEchelon: all kinds, and the greatest, are reduced, and what the plain way tells.
func TestEchelon(t *testing.T) {
	t.Parallel()
	for _, k := range allKnown() {
		for name, f := range fields() {
			got, leads := gauss.Echelon(f, k.m)
			if !plain.SameMatrix(got, k.reduced) || !slices.Equal(leads, k.leads) || !isReduced(got, leads) {
				t.Errorf("%s: Echelon of %d by %d is another one, and leads at %v, not %v", name, k.m.Rows, k.m.Cols, leads, k.leads)
			}
		}
	}
}

// TestEchelonOfReduced: it is what it was.
func TestEchelonOfReduced(t *testing.T) {
	for name, f := range fields() {
		for _, m := range append(tries(), one(300), noughts(300, 300)) {
			once, leads := gauss.Echelon(f, m)
			if twice, again := gauss.Echelon(f, once); !plain.SameMatrix(once, twice) || !slices.Equal(leads, again) {
				t.Errorf("%s: Echelon of Echelon of %d by %d is another one, and leads at %v, not %v", name, m.Rows, m.Cols, again, leads)
			}
		}
	}
}

// respanned are matrices whose rows span what those of a right one span: in another order, multiplied, added to others.
func respanned(m api.Matrix) []api.Matrix {
	back, turned, times, added := plain.RowsOf(m), plain.RowsOf(m), plain.RowsOf(m), plain.RowsOf(m)
	slices.Reverse(back)
	turned = append(turned[1:], turned[0])
	for i := range m.Rows {
		times[i] = make([]byte, m.Cols)
		plain.AddTimes(times[i], byte(i%255+1), added[i])
		if i > 0 {
			plain.AddTimes(added[i], byte(i+0x35), added[i-1])
		}
	}
	slices.Reverse(added)
	return []api.Matrix{laid(m.Cols, back...), laid(m.Cols, turned...), laid(m.Cols, times...), laid(m.Cols, added...)}
}

// TestEchelonOfOneSpan: whichever rows span it.
func TestEchelonOfOneSpan(t *testing.T) {
	for name, f := range fields() {
		for _, m := range append(tries(), ofRank(2, 300, 9, 300)) {
			if m.Rows == 0 {
				continue
			}
			want, wantLeads := gauss.Echelon(f, m)
			for i, other := range respanned(m) {
				if got, leads := gauss.Echelon(f, other); !plain.SameMatrix(got, want) || !slices.Equal(leads, wantLeads) {
					t.Errorf("%s: Echelon of %d by %d, respanned %d, is another one", name, m.Rows, m.Cols, i)
				}
			}
		}
	}
}

// TestEchelonOfKnownSpan: a matrix that is reduced, its rows mixed by one that has an inverse, is told again.
func TestEchelonOfKnownSpan(t *testing.T) {
	for _, leads := range [][]int{{}, {0}, {3}, {69}, {0, 1, 2}, {1, 2, 5, 64}, {63, 64, 65}, {0, 69}, {0, 1, 2, 3, 4, 5, 6, 7}} {
		want := noughts(8, 70)
		for i, at := range leads {
			copy(want.Cells[i*70+at:(i+1)*70], plain.Mixed(i, 70))
			for k := range leads {
				want.Cells[k*70+at] = 0
			}
		}
		for i, at := range leads {
			for _, other := range leads {
				want.Cells[i*70+other] = 0
			}
			want.Cells[i*70+at] = 1
		}
		mixed := plain.MatrixProduct(invertible(4, 8), want)
		for name, f := range fields() {
			if got, told := gauss.Echelon(f, mixed); !plain.SameMatrix(got, want) || !slices.Equal(told, leads) {
				t.Errorf("%s: what leads at %v, mixed, leads at %v", name, leads, told)
			}
		}
	}
}

func TestRankKnown(t *testing.T) {
	for name, f := range fields() {
		for _, c := range []struct {
			m    api.Matrix
			want int
		}{
			{api.Matrix{}, 0}, {api.Matrix{Rows: 300}, 0}, {api.Matrix{Cols: 300}, 0}, {noughts(1, 1), 0}, {noughts(300, 300), 0}, {one(1), 1}, {one(300), 300},
			{of([]byte{0, 0, 8}), 1}, {of([]byte{0}, []byte{0}, []byte{8}), 1}, {of([]byte{1, 2}, []byte{2, 4}), 1}, {of([]byte{1, 2}, []byte{2, 5}), 2},
			{of([]byte{1, 2, 3}, []byte{4, 5, 6}, []byte{5, 7, 5}), 2}, {of([]byte{1, 2, 3}, []byte{4, 5, 6}, []byte{5, 7, 4}), 3},
		} {
			if got := gauss.Rank(f, c.m); got != c.want {
				t.Errorf("%s: Rank of %d by %d = %d, not %d", name, c.m.Rows, c.m.Cols, got, c.want)
			}
		}
	}
}

// TestRank: as many as the plain way has LEADS, and as many of the same turned.
func TestRank(t *testing.T) {
	t.Parallel()
	for _, k := range allKnown() {
		for name, f := range fields() {
			if got := gauss.Rank(f, k.m); got != len(k.leads) {
				t.Errorf("%s: Rank of %d by %d = %d, not %d", name, k.m.Rows, k.m.Cols, got, len(k.leads))
			}
			if got := gauss.Rank(f, plain.Turned(k.m)); got != len(k.leads) {
				t.Errorf("%s: Rank of %d by %d, turned, = %d, not %d", name, k.m.Rows, k.m.Cols, got, len(k.leads))
			}
		}
	}
}

// TestRankOfProducts: no more than of either factor, and just as many, where the other factor has an inverse.
func TestRankOfProducts(t *testing.T) {
	for name, f := range fields() {
		for _, m := range slices.Concat(plain.Matrices(), dependent()) {
			want := gauss.Rank(f, m)
			if m.Rows <= 70 {
				if got := gauss.Rank(f, plain.MatrixProduct(invertible(3, m.Rows), m)); got != want {
					t.Errorf("%s: Rank of %d by %d is %d, and of a product with one that has an inverse %d", name, m.Rows, m.Cols, want, got)
				}
			}
			if m.Cols <= 70 {
				if got := gauss.Rank(f, plain.MatrixProduct(m, invertible(3, m.Cols))); got != want {
					t.Errorf("%s: Rank of %d by %d is %d, and of its product with one that has an inverse %d", name, m.Rows, m.Cols, want, got)
				}
			}
			other := ofRank(1, m.Cols, 2, 5)
			if got := gauss.Rank(f, plain.MatrixProduct(m, other)); got > want || got > gauss.Rank(f, other) {
				t.Errorf("%s: Rank of a product with %d by %d is %d, of that %d", name, m.Rows, m.Cols, got, want)
			}
		}
	}
}

// columns are some as long as a right matrix has rows: noughts, that come of some for sure, and that come of none for the most part.
func columns(m api.Matrix) [][]byte {
	l := [][]byte{make([]byte, m.Rows), timesPlain(m, plain.Mixed(3, m.Cols)), timesPlain(m, slices.Repeat([]byte{0xFF}, m.Cols)), plain.Mixed(4, m.Rows)}
	if m.Rows > 0 {
		last, near := make([]byte, m.Rows), slices.Clone(l[1])
		last[m.Rows-1] = 1
		near[m.Rows/2] ^= 0x80
		l = append(l, last, near)
	}
	return l
}

// checkSolve holds what is solved against the chapter's words: it is put in again, and 0 where no LEAD stands; nothing, if the column is one more LEAD.
func checkSolve(t *testing.T, name string, f *field.Field, m api.Matrix, b []byte, leads []int, is bool) {
	t.Helper()
	x, ok := gauss.Solve(f, m, b)
	if ok != is || !ok && len(x) != 0 {
		t.Fatalf("%s: Solve of %d by %d and %X = %X, %v, not %v", name, m.Rows, m.Cols, b, x, ok, is)
	}
	if !ok {
		return
	}
	if len(x) != m.Cols || !bytes.Equal(timesPlain(m, x), b) {
		t.Fatalf("%s: Solve of %d by %d and %X = %X, which comes to another one", name, m.Rows, m.Cols, b, x)
	}
	if again, fits := matrix.Times(f, m, x); !fits || !bytes.Equal(again, b) {
		t.Fatalf("%s: Solve of %d by %d and %X = %X, which comes to %X, put in again", name, m.Rows, m.Cols, b, x, again)
	}
	for _, j := range without(m.Cols, leads) {
		if x[j] != 0 {
			t.Fatalf("%s: Solve of %d by %d and %X = %X, which is not 0 at %d, where no LEAD stands", name, m.Rows, m.Cols, b, x, j)
		}
	}
}

func TestSolve(t *testing.T) {
	some, none := 0, 0
	for _, k := range knownTries() {
		for _, b := range columns(k.m) {
			_, wide := plain.Reduced(plain.WithColumn(k.m, b))
			is := len(wide) == len(k.leads)
			if is {
				some++
			} else {
				none++
			}
			for name, f := range fields() {
				checkSolve(t, name, f, k.m, b, k.leads, is)
			}
		}
	}
	if some < 100 || none < 100 {
		t.Errorf("%d columns come of some, and %d of none: too few were tried", some, none)
	}
}

// TestSolveGreatest: with an inverse any column comes of one; with few LEADS some do, and a cell more is too much.
func TestSolveGreatest(t *testing.T) {
	t.Parallel()
	whole, few := knownGreatest()[0], knownGreatest()[1]
	fits := timesPlain(few.m, plain.Mixed(3, 300))
	near := slices.Clone(fits)
	near[299] ^= 1
	for name, f := range fields() {
		checkSolve(t, name, f, whole.m, plain.Mixed(4, 300), whole.leads, true)
		checkSolve(t, name, f, few.m, fits, few.leads, true)
		checkSolve(t, name, f, few.m, near, few.leads, false)
	}
}

// comeOf are the columns that come of any, of a matrix of 2 by 2.
func comeOf(m api.Matrix) map[[2]byte]bool {
	l := map[[2]byte]bool{}
	plain.AllPairs(func(x, y byte) {
		l[[2]byte(timesPlain(m, []byte{x, y}))] = true
	})
	return l
}

// TestSolveSmall: columns of few kinds, held against all that come of any.
func TestSolveSmall(t *testing.T) {
	for _, m := range []api.Matrix{noughts(2, 2), one(2), of([]byte{1, 1}, []byte{0, 2}), of([]byte{1, 2}, []byte{2, 4}), of([]byte{0, 1}, []byte{0, 3}), of([]byte{0, 0}, []byte{5, 0}), of([]byte{3, 3}, []byte{0, 0}), of([]byte{1, 2}, []byte{3, 4})} {
		_, leads := plain.Reduced(m)
		come := comeOf(m)
		for n := range 256 {
			b := [2]byte{byte(n % 16), byte(n / 16)}
			for name, f := range fields() {
				checkSolve(t, name, f, m, b[:], leads, come[b])
			}
		}
	}
}

func TestSolveKnown(t *testing.T) {
	for name, f := range fields() {
		for _, c := range []struct {
			m       api.Matrix
			b, want []byte
			ok      bool
		}{
			{api.Matrix{}, nil, nil, true},
			{api.Matrix{}, []byte{}, nil, true},
			{api.Matrix{Cols: 3}, nil, []byte{0, 0, 0}, true},
			{api.Matrix{Cols: 300}, []byte{}, make([]byte, 300), true},
			{api.Matrix{Rows: 3}, []byte{0, 0, 0}, nil, true},
			{api.Matrix{Rows: 3}, []byte{0, 0, 1}, nil, false},
			{api.Matrix{Rows: 300}, make([]byte, 300), nil, true},
			{of([]byte{0}), []byte{0}, []byte{0}, true},
			{of([]byte{0}), []byte{1}, nil, false},
			{of([]byte{2}), []byte{1}, []byte{0x8E}, true},
			{of([]byte{2}), []byte{0x1D}, []byte{0x80}, true},
			{of([]byte{1, 1, 1}), []byte{7}, []byte{7, 0, 0}, true},
			{of([]byte{0, 1, 1}), []byte{7}, []byte{0, 7, 0}, true},
			{of([]byte{1}, []byte{2}), []byte{3, 6}, []byte{3}, true},
			{of([]byte{1}, []byte{2}), []byte{3, 5}, nil, false},
			{of([]byte{1, 2}, []byte{2, 4}), []byte{1, 2}, []byte{1, 0}, true},
			{of([]byte{1, 2}, []byte{2, 4}), []byte{1, 3}, nil, false},
			{of([]byte{1, 2}, []byte{2, 4}), []byte{0, 1}, nil, false},
			{of([]byte{0, 1}, []byte{1, 0}), []byte{5, 6}, []byte{6, 5}, true},
			{of([]byte{1, 5, 0}, []byte{0, 0, 1}), []byte{8, 9}, []byte{8, 0, 9}, true},
			{one(300), plain.Mixed(1, 300), plain.Mixed(1, 300), true},
			{noughts(300, 300), make([]byte, 300), make([]byte, 300), true},
			{noughts(300, 300), append(make([]byte, 299), 1), nil, false},
		} {
			if got, ok := gauss.Solve(f, c.m, c.b); ok != c.ok || !bytes.Equal(got, c.want) {
				t.Errorf("%s: Solve(%v, %X) = %X, %v, not %X, %v", name, c.m, c.b, got, ok, c.want, c.ok)
			}
		}
	}
}

// TestSolveUnlike: columns that are longer or shorter than there are rows, also if all that is more is 0, or lies behind.
func TestSolveUnlike(t *testing.T) {
	for name, f := range fields() {
		for _, m := range slices.Concat(plain.Matrices(), dependent(), []api.Matrix{one(300)}) {
			for _, long := range []int{0, 1, m.Rows - 1, m.Rows + 1, m.Rows + 64, 2*m.Rows + 1, m.Cols, 300, 301, 100000} {
				if long < 0 || long == m.Rows {
					continue
				}
				for _, b := range [][]byte{make([]byte, long), make([]byte, long, long+m.Rows+1), plain.Mixed(1, long)} {
					if got, ok := gauss.Solve(f, m, b); ok || len(got) != 0 {
						t.Errorf("%s: Solve of %d by %d and a column of %d = %X, %v", name, m.Rows, m.Cols, long, got, ok)
					}
				}
			}
		}
	}
}

func TestNullKnown(t *testing.T) {
	for name, f := range fields() {
		for _, c := range []struct {
			m    api.Matrix
			want [][]byte
		}{
			{api.Matrix{}, nil},
			{api.Matrix{Rows: 300}, nil},
			{api.Matrix{Cols: 2}, [][]byte{{1, 0}, {0, 1}}},
			{of([]byte{0}), [][]byte{{1}}},
			{of([]byte{9}), nil},
			{of([]byte{1, 1}, []byte{0, 2}), nil},
			{of([]byte{1, 2, 3}), [][]byte{{2, 1, 0}, {3, 0, 1}}},
			{of([]byte{2, 4, 6}), [][]byte{{2, 1, 0}, {3, 0, 1}}},
			{of([]byte{0, 1, 5}), [][]byte{{1, 0, 0}, {0, 5, 1}}},
			{of([]byte{0, 0}, []byte{0, 0}, []byte{0, 0}), [][]byte{{1, 0}, {0, 1}}},
			{of([]byte{1, 7, 0, 8}, []byte{0, 0, 1, 9}), [][]byte{{7, 1, 0, 0}, {8, 0, 9, 1}}},
			{noughts(2, 300), plain.RowsOf(one(300))},
			{api.Matrix{Cols: 300}, plain.RowsOf(one(300))},
			{one(300), nil},
		} {
			if got := gauss.Null(f, c.m); !slices.EqualFunc(got, c.want, bytes.Equal) {
				t.Errorf("%s: Null(%v) = %X, not %X", name, c.m, got, c.want)
			}
		}
	}
}

// TestNull: for each column without a LEAD, rising, one that comes to nothing, is 1 there, and 0 at all others without one.
func TestNull(t *testing.T) {
	t.Parallel()
	for _, k := range allKnown() {
		free := without(k.m.Cols, k.leads)
		for name, f := range fields() {
			got := gauss.Null(f, k.m)
			if len(got) != len(free) {
				t.Fatalf("%s: Null of %d by %d has %d columns, not %d", name, k.m.Rows, k.m.Cols, len(got), len(free))
			}
			for i, x := range got {
				checkNull(t, name, k.m, x, free, free[i])
			}
		}
	}
}

// quick puts in again what was told by any backend: it is the fastest, and the tests of matrix hold its products against plain ones.
var quick = field.Of(api.Table)

func checkNull(t *testing.T, name string, m api.Matrix, x []byte, free []int, at int) {
	t.Helper()
	if len(x) != m.Cols {
		t.Fatalf("%s: Null of %d by %d has %X", name, m.Rows, m.Cols, x)
	}
	for _, j := range free {
		if (j == at) != (x[j] == 1) || j != at && x[j] != 0 {
			t.Fatalf("%s: Null of %d by %d has for %d %X", name, m.Rows, m.Cols, at, x)
		}
	}
	if b, ok := matrix.Times(quick, m, x); !ok || !bytes.Equal(b, make([]byte, m.Rows)) {
		t.Fatalf("%s: Null of %d by %d has for %d %X, which comes to %X", name, m.Rows, m.Cols, at, x, b)
	}
}

// TestNullOfProduct: what comes to nothing by the first factor, comes to nothing by both.
func TestNullOfProduct(t *testing.T) {
	for name, f := range fields() {
		a, b := ofRank(1, 20, 5, 70), plain.Sized(2, 9, 20)
		product := plain.MatrixProduct(b, a)
		null := gauss.Null(f, a)
		if len(null) < 65 {
			t.Fatalf("%s: Null has %d columns", name, len(null))
		}
		for _, x := range null {
			if !bytes.Equal(timesPlain(product, x), make([]byte, 9)) {
				t.Errorf("%s: %X comes to nothing by one factor, but not by both", name, x)
			}
		}
	}
}

func TestInverseKnown(t *testing.T) {
	for name, f := range fields() {
		for _, c := range []struct {
			m, want api.Matrix
			ok      bool
		}{
			{api.Matrix{}, api.Matrix{}, true},
			{of([]byte{0}), api.Matrix{}, false},
			{of([]byte{1}), of([]byte{1}), true},
			{of([]byte{2}), of([]byte{0x8E}), true},
			{of([]byte{1, 1}, []byte{0, 2}), of([]byte{1, 0x8E}, []byte{0, 0x8E}), true},
			{of([]byte{0, 1}, []byte{1, 0}), of([]byte{0, 1}, []byte{1, 0}), true},
			{of([]byte{0, 2}, []byte{1, 0}), of([]byte{0, 1}, []byte{0x8E, 0}), true},
			{of([]byte{1, 5}, []byte{0, 1}), of([]byte{1, 5}, []byte{0, 1}), true},
			{of([]byte{1, 2}, []byte{2, 4}), api.Matrix{}, false},
			{of([]byte{1, 1}, []byte{1, 1}), api.Matrix{}, false},
			{of([]byte{0, 1}, []byte{0, 2}), api.Matrix{}, false},
			{of([]byte{0, 0}, []byte{1, 2}), api.Matrix{}, false},
			{of([]byte{1, 2, 3}, []byte{4, 5, 6}, []byte{5, 7, 5}), api.Matrix{}, false},
			{noughts(300, 300), api.Matrix{}, false},
			{one(300), one(300), true},
		} {
			if got, ok := gauss.Inverse(f, c.m); ok != c.ok || !plain.SameMatrix(got, c.want) {
				t.Errorf("%s: Inverse of %d by %d = %v, %v, not %v, %v", name, c.m.Rows, c.m.Cols, got, ok, c.want, c.ok)
			}
		}
	}
}

// TestInverse: of all kinds there is one just where there are as many LEADS as rows and columns; either way it comes to One, and its own is what was.
func TestInverse(t *testing.T) {
	t.Parallel()
	some, none := 0, 0
	for _, k := range allKnown() {
		is := k.m.Rows == k.m.Cols && len(k.leads) == k.m.Cols
		if is {
			some++
		} else {
			none++
		}
		for name, f := range fields() {
			got, ok := gauss.Inverse(f, k.m)
			if ok != is || !ok && !plain.NoMatrix(got) {
				t.Fatalf("%s: Inverse of %v = %v, %v", name, k.m, got, ok)
			}
			if is {
				checkInverse(t, name, f, k.m, got)
			}
		}
	}
	if some < 100 || none < 100 {
		t.Errorf("%d have an inverse, and %d none: too few were tried", some, none)
	}
}

func checkInverse(t *testing.T, name string, f *field.Field, m, inverse api.Matrix) {
	t.Helper()
	for _, pair := range [][2]api.Matrix{{m, inverse}, {inverse, m}} {
		product, ok := matrix.Mul(quick, pair[0], pair[1])
		if !ok || !plain.SameMatrix(product, one(m.Rows)) {
			t.Fatalf("%s: Inverse of %d by %d is none, %v", name, m.Rows, m.Cols, ok)
		}
	}
	if m.Rows == api.MaxSide {
		f = quick // The others take their time, and were asked once.
	}
	if again, ok := gauss.Inverse(f, inverse); !ok || !plain.SameMatrix(again, m) {
		t.Fatalf("%s: Inverse of Inverse of %d by %d is another one, %v", name, m.Rows, m.Cols, ok)
	}
}

// TestInverseOfUnlikeSides: none, also where a product with one is One.
func TestInverseOfUnlikeSides(t *testing.T) {
	for name, f := range fields() {
		for _, size := range append(plain.Sizes(), [2]int{299, 300}, [2]int{300, 299}) {
			if size[0] == size[1] {
				continue
			}
			m := noughts(size[0], size[1])
			for i := range min(size[0], size[1]) {
				m.Cells[i*m.Cols+i] = 1
			}
			for _, m := range []api.Matrix{m, plain.Sized(1, size[0], size[1])} {
				if got, ok := gauss.Inverse(f, m); ok || !plain.NoMatrix(got) {
					t.Errorf("%s: Inverse of %d by %d = %v, %v", name, m.Rows, m.Cols, got, ok)
				}
			}
		}
	}
}

// TestInverseSolves: an inverse times a column is what is solved.
func TestInverseSolves(t *testing.T) {
	for name, f := range fields() {
		for _, n := range []int{1, 2, 5, 64, 65} {
			m, b := invertible(2, n), plain.Mixed(n, n)
			back, is := gauss.Inverse(f, m)
			x, ok := gauss.Solve(f, m, b)
			if !is || !ok || !bytes.Equal(x, timesPlain(back, b)) {
				t.Errorf("%s: %d by %d is solved otherwise than by its inverse, %v, %v", name, n, n, is, ok)
			}
		}
	}
}
