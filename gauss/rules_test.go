package gauss_test

import (
	"bytes"
	"slices"
	"strconv"
	"sync"
	"testing"

	"erratum/api"
	"erratum/field"
	"erratum/gauss"
	"erratum/matrix"
	"erratum/plain"
)

// checkNothing: all calls tell nothing of a matrix, whatever the column is.
func checkNothing(t *testing.T, name string, f *field.Field, m api.Matrix) {
	t.Helper()
	if got, leads := gauss.Echelon(f, m); !plain.NoMatrix(got) || len(leads) != 0 {
		t.Errorf("%s: Echelon of %d by %d, %d cells = %v, %v", name, m.Rows, m.Cols, len(m.Cells), got, leads)
	}
	if got := gauss.Rank(f, m); got != 0 {
		t.Errorf("%s: Rank of %d by %d, %d cells = %d", name, m.Rows, m.Cols, len(m.Cells), got)
	}
	if got := gauss.Null(f, m); len(got) != 0 {
		t.Errorf("%s: Null of %d by %d, %d cells = %X", name, m.Rows, m.Cols, len(m.Cells), got)
	}
	if got, ok := gauss.Inverse(f, m); ok || !plain.NoMatrix(got) {
		t.Errorf("%s: Inverse of %d by %d, %d cells = %v, %v", name, m.Rows, m.Cols, len(m.Cells), got, ok)
	}
	for _, long := range []int{0, 1, 2, 300, 301, m.Rows, m.Cols, len(m.Cells)} {
		if long < 0 || long > 100000 {
			continue
		}
		for _, b := range [][]byte{make([]byte, long), plain.Mixed(1, long)} {
			if got, ok := gauss.Solve(f, m, b); ok || len(got) != 0 {
				t.Errorf("%s: Solve of %d by %d, %d cells, and %d = %X, %v", name, m.Rows, m.Cols, len(m.Cells), long, got, ok)
			}
		}
	}
}

// TestCrooked: matrices that are not right, those among them that have as many rows as columns.
func TestCrooked(t *testing.T) {
	for name, f := range fields() {
		for _, m := range plain.Crooked() {
			checkNothing(t, name, f, m)
		}
	}
}

// TestCrookedBehind: fewer cells than both sides multiplied, though those that lack lie behind their length.
func TestCrookedBehind(t *testing.T) {
	for name, f := range fields() {
		for _, n := range []int{1, 2, 5, 64, 300} {
			m := one(n)
			m.Cells = m.Cells[:n*n-1]
			checkNothing(t, name, f, m)
		}
	}
}

func TestNilField(t *testing.T) {
	for _, m := range slices.Concat(plain.Matrices(), dependent(), plain.Crooked(), []api.Matrix{one(300)}) {
		checkNothing(t, "nil", nil, m)
	}
}

// TestToldIsRight: whatever matrix is told.
func TestToldIsRight(t *testing.T) {
	for name, f := range fields() {
		for _, m := range slices.Concat(plain.Matrices(), dependent(), plain.Crooked(), []api.Matrix{one(300)}) {
			reduced, _ := gauss.Echelon(f, m)
			back, _ := gauss.Inverse(f, m)
			if !matrix.Right(reduced) || !matrix.Right(back) {
				t.Errorf("%s: what is told of %d by %d, %d cells, is not right", name, m.Rows, m.Cols, len(m.Cells))
			}
		}
	}
}

// solvable are right matrices, among them such as are reduced, One or all 0: of these what is handed in could be told as it is.
func solvable() []api.Matrix {
	return slices.Concat(plain.Matrices(), dependent(), []api.Matrix{one(70), noughts(70, 70), of([]byte{1, 0, 7}, []byte{0, 1, 8}, []byte{0, 0, 0})})
}

// told are all bytes that are told of a right matrix and a column; the columns of LEADS are told apart.
func told(f *field.Field, m api.Matrix, b []byte) (map[string][]byte, []int) {
	l := map[string][]byte{}
	reduced, leads := gauss.Echelon(f, m)
	back, _ := gauss.Inverse(f, m)
	l["Echelon"], l["Inverse"] = reduced.Cells, back.Cells
	l["Solve"], _ = gauss.Solve(f, m, b)
	l["Solve, of noughts"], _ = gauss.Solve(f, m, make([]byte, m.Rows))
	for i, x := range gauss.Null(f, m) {
		l["Null "+strconv.Itoa(i)] = x
	}
	return l, leads
}

// TestHandedInStays: cells and columns are as they were, and so is what lies behind their length; none of it is read or told.
func TestHandedInStays(t *testing.T) {
	for name, f := range fields() {
		for _, m := range solvable() {
			b := timesPlain(m, plain.Mixed(5, m.Cols))
			wholeM, innerM := plain.FramedMatrix(m)
			wholeB, innerB := plain.Framed(b)
			wasM, wasB := slices.Clone(wholeM), slices.Clone(wholeB)
			want, wantLeads := told(f, plain.CopiedMatrix(m), slices.Clone(b))
			got, leads := told(f, innerM, innerB)
			if call, same := plain.Alike(want, got); !same || !slices.Equal(leads, wantLeads) || len(want) != len(got) {
				t.Errorf("%s: %s reads behind %d by %d", name, call, m.Rows, m.Cols)
			}
			if gauss.Rank(f, innerM) != len(leads) {
				t.Errorf("%s: Rank reads behind %d by %d", name, m.Rows, m.Cols)
			}
			if !bytes.Equal(wholeM, wasM) || !bytes.Equal(wholeB, wasB) {
				t.Errorf("%s: %d by %d, or its column, was changed", name, m.Rows, m.Cols)
			}
		}
	}
}

// TestToldIsNew: what is told stays, whatever becomes of what was handed in or of what was told beside it.
func TestToldIsNew(t *testing.T) {
	for name, f := range fields() {
		for _, m := range solvable() {
			wholeM, innerM := plain.FramedMatrix(m)
			wholeB, innerB := plain.Framed(timesPlain(m, plain.Mixed(5, m.Cols)))
			first, leads := told(f, innerM, innerB)
			want, wantLeads := plain.Copied(first), slices.Clone(leads)
			others, otherLeads := told(f, innerM, innerB)
			for _, l := range others {
				clear(l[:cap(l)])
			}
			for i := range otherLeads[:cap(otherLeads)] {
				otherLeads[:cap(otherLeads)][i] = -1
			}
			clear(wholeM)
			clear(wholeB)
			if call, same := plain.Alike(want, first); !same || !slices.Equal(leads, wantLeads) {
				t.Errorf("%s: %s of %d by %d shares memory with what was handed in or told before", name, call, m.Rows, m.Cols)
			}
			checkApart(t, name, first)
		}
	}
}

// checkApart: lists of which each may be written to its capacity's end, and all others stay.
func checkApart(t *testing.T, name string, l map[string][]byte) {
	t.Helper()
	if len(l) > 80 {
		return // All by all of so many would take too long: fewer show as much.
	}
	want := plain.Copied(l)
	for call, list := range l {
		for i := range list[:cap(list)] {
			list[:cap(list)][i] ^= 0xA5
		}
		want[call] = slices.Clone(list)
		if other, same := plain.Alike(want, l); !same {
			t.Errorf("%s: %s and %s share memory", name, call, other)
		}
	}
}

// TestToldIsFarFromBehind: what is told may be written to its capacity's end, and what was handed in stays.
func TestToldIsFarFromBehind(t *testing.T) {
	for name, f := range fields() {
		for _, m := range solvable() {
			wholeM, innerM := plain.FramedMatrix(m)
			wholeB, innerB := plain.Framed(timesPlain(m, plain.Mixed(5, m.Cols)))
			wasM, wasB := slices.Clone(wholeM), slices.Clone(wholeB)
			lists, _ := told(f, innerM, innerB)
			for call, l := range lists {
				plain.Spoil(l)
				if !bytes.Equal(wholeM, wasM) || !bytes.Equal(wholeB, wasB) {
					t.Fatalf("%s: %s of %d by %d hands out what was handed in", name, call, m.Rows, m.Cols)
				}
			}
		}
	}
}

// TestColumnOfItsOwnCells: a column that lies in the matrix's memory is taken as an equal one is.
func TestColumnOfItsOwnCells(t *testing.T) {
	for name, f := range fields() {
		for _, n := range []int{1, 2, 5, 65} {
			m := invertible(1, n)
			was := plain.CopiedMatrix(m)
			want, _ := gauss.Solve(f, was, slices.Clone(was.Cells[:n]))
			if got, ok := gauss.Solve(f, m, m.Cells[:n]); !ok || !bytes.Equal(got, want) || !plain.SameMatrix(m, was) {
				t.Errorf("%s: Solve of %d by %d and its own first row = %X, %v, not %X", name, n, n, got, ok, want)
			}
		}
	}
}

// TestSeveralAtATime: many ask by one field; run with -race it tells more.
func TestSeveralAtATime(t *testing.T) {
	m := ofRank(1, 20, 8, 30)
	b := timesPlain(m, plain.Mixed(1, 30))
	want, wantLeads := told(field.Of(api.Shift), m, b)
	for name, f := range fields() {
		var all sync.WaitGroup
		wrong := make([]bool, 8)
		for who := range wrong {
			all.Go(func() {
				got, leads := told(f, m, b)
				_, same := plain.Alike(want, got)
				wrong[who] = !same || len(got) != len(want) || !slices.Equal(leads, wantLeads)
			})
		}
		all.Wait()
		if slices.Contains(wrong, true) {
			t.Errorf("%s: several at a time were told otherwise", name)
		}
	}
}
