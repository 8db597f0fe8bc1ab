package massey_test

import (
	"slices"
	"testing"

	"erratum/field"
	"erratum/massey"
	"erratum/plain"
)

// checkMakes: Makes says so.
func checkMakes(t *testing.T, name string, f *field.Field, l []byte, n int, s []byte, want bool) {
	t.Helper()
	if massey.Makes(f, l, n, s) != want {
		t.Fatalf("%s: Makes(%X, %d, %X) is not %v", name, l, n, s, want)
	}
}

func TestMakesKnown(t *testing.T) {
	for name, f := range fields() {
		for _, c := range []struct {
			l    []byte
			n    int
			s    []byte
			want bool
		}{
			{[]byte{1, 2}, 1, []byte{1, 2, 4, 8}, true},
			{[]byte{1, 2, 0, 0}, 1, []byte{1, 2, 4, 8}, true}, // Noughts behind count for nothing.
			{[]byte{1, 2}, 2, []byte{1, 2, 4, 8}, true},       // Its degree may be less than the length.
			{[]byte{1, 2}, 2, []byte{7, 2, 4, 8}, true},       // The first two bytes are not made then.
			{[]byte{1, 2}, 1, []byte{7, 2, 4, 8}, false},
			{[]byte{1, 2}, 3, []byte{9, 7, 4, 8}, true},
			{[]byte{1, 2}, 4, []byte{9, 7, 5, 3}, true}, // Nothing is left to be made.
			{[]byte{1, 2}, 5, []byte{1, 2, 4, 8}, false},
			{[]byte{1, 2}, 0, []byte{1, 2, 4, 8}, false}, // Its degree is above the length.
			{[]byte{1, 2}, 0, []byte{0, 0}, false},
			{[]byte{1, 2}, -1, []byte{1, 2, 4, 8}, false},
			{[]byte{1, 2}, 1, []byte{1, 2, 4, 9}, false}, // All but the last.
			{[]byte{1, 2}, 1, []byte{1, 3, 6, 12}, false},
			{[]byte{1, 2}, 1, []byte{1, 2, 5, 10}, false},
			{[]byte{1, 3}, 1, []byte{1, 2, 4, 8}, false},
			{[]byte{2, 4}, 1, []byte{1, 2, 4, 8}, false}, // The same to a multiple, but 2 is not 1.
			{[]byte{0, 1, 2}, 2, []byte{1, 2, 4, 8}, false},
			{[]byte{0, 0}, 1, []byte{0, 0}, false},
			{nil, 0, nil, false},
			{nil, 0, []byte{0}, false},
			{[]byte{}, 1, []byte{1, 2}, false},
			{[]byte{0}, 0, nil, false},
			{[]byte{1}, 0, nil, true},
			{[]byte{1}, 1, nil, false},
			{[]byte{1}, -1, nil, false},
			{[]byte{1, 0}, 0, []byte{}, true},
			{[]byte{1, 1}, 0, nil, false},
			{[]byte{1}, 0, []byte{0, 0, 0}, true},
			{[]byte{1, 0, 0, 0, 0}, 0, []byte{0, 0, 0}, true}, // As a list it is longer than s.
			{[]byte{1}, 0, []byte{0, 0, 1}, false},
			{[]byte{1}, 0, []byte{1, 0, 0}, false},
			{[]byte{1}, 1, []byte{1, 0, 0}, true},
			{[]byte{1}, 2, []byte{0, 0, 1}, false},
			{[]byte{1}, 3, []byte{0, 0, 1}, true},
			{[]byte{1, 1, 1}, 2, []byte{1, 1, 0, 1, 1, 0}, true},
			{[]byte{1, 1, 1}, 2, []byte{1, 1, 0, 1, 1, 1}, false},
			{[]byte{1, 1, 1}, 1, []byte{1, 1, 0, 1, 1, 0}, false},
			{[]byte{1, 0, 2}, 2, []byte{1, 0x80, 2, 0x1D}, true}, // What is too high is brought down.
			{[]byte{1, 2, 0}, 2, []byte{1, 0x80, 2, 0x1D}, false},
		} {
			checkMakes(t, name, f, c.l, c.n, c.s, c.want)
		}
	}
}

// TestMakesOfAllShort: all short lists by all short ones, and all lengths round them, held against the chapter's words.
func TestMakesOfAllShort(t *testing.T) {
	t.Parallel()
	for _, l := range plain.AllShort(4, byte(0), 1, 0x8E) {
		for _, s := range plain.AllShort(4, byte(0), 1, 2) {
			for n := -2; n <= 6; n++ {
				want := makesPlain(l, n, s)
				for name, f := range fields() {
					checkMakes(t, name, f, l, n, s, want)
				}
			}
		}
	}
}

// TestMakes: what registers of each length make, and no list with one of these bytes turned.
func TestMakes(t *testing.T) {
	t.Parallel()
	for name, f := range fields() {
		for n := range 20 {
			for i, l := range plain.Registers(n) {
				s := plain.Made(l, plain.Mixed(n+i, n), 2*n+5)
				checkMakes(t, name, f, l, n, s, true)
				checkMakes(t, name, f, plain.Behind(l, 1), n, s, true)
				checkMakes(t, name, f, plain.Behind(l, 300), n, s, true)
				for at := range s {
					turned := plain.Added(s, at, byte(at%255)+1)
					checkMakes(t, name, f, l, n, turned, makesPlain(l, n, turned))
					if at >= n || len(l)-1 == n {
						checkMakes(t, name, f, l, n, turned, false)
					}
				}
			}
		}
	}
}

// TestMakesAllButOne: one byte alone is not made: the first behind the register's length, the last, or one between; with all behind it made from it on.
func TestMakesAllButOne(t *testing.T) {
	t.Parallel()
	for name, f := range fields() {
		for n := range 12 {
			for i, l := range plain.Registers(n) {
				for _, at := range []int{n, n + 1, 2*n + 2, 2*n + 5} {
					front := plain.Added(plain.Made(l, plain.Mixed(n+i, n), at+1), at, 0x42)
					s := plain.Made(l, front, 2*n+6)
					checkMakes(t, name, f, l, n, s, false)
					checkMakes(t, name, f, l, n, s[:at], true)
					checkMakes(t, name, f, l, at, s, false)  // It makes all from that one on, which it does not make.
					checkMakes(t, name, f, l, at+1, s, true) // All behind it.
				}
			}
		}
	}
}

// TestMakesOfEachFirst: of all bytes that the coefficient of x^0 may be, 1 alone is a register's, whatever the list.
func TestMakesOfEachFirst(t *testing.T) {
	for name, f := range fields() {
		for first := range 256 {
			for _, l := range [][]byte{{0}, {0, 2}, {0, 0, 5, 0}, {0, 0, 0, 0, 1}} {
				l[0] = byte(first)
				for n := len(plain.Strip(l)); n < 8; n++ {
					checkMakes(t, name, f, l, n, make([]byte, 8), first == 1)
					checkMakes(t, name, f, l, n, plain.Mixed(first, n), first == 1)
				}
			}
		}
	}
}

// TestMakesOfEachLength: of lengths round the list's end, and round the degree, and as far off as an int is.
func TestMakesOfEachLength(t *testing.T) {
	t.Parallel()
	for name, f := range fields() {
		for _, d := range []int{0, 1, 2, 7, 30} {
			l := append(plain.Mixed(d, d), 9)
			l[0] = 1
			for _, s := range [][]byte{nil, make([]byte, d), make([]byte, d+1), make([]byte, 2*d+9), plain.Made(l, plain.Mixed(3, d), 2*d+9), plain.Mixed(5, d+4)} {
				for _, n := range slices.Concat(plain.Around(len(s)), plain.Around(d)) {
					checkMakes(t, name, f, l, n, s, makesPlain(l, n, s))
					checkMakes(t, name, f, plain.Behind(l, 3), n, s, makesPlain(l, n, s))
				}
				checkMakes(t, name, f, l, len(s), s, len(s) >= d)
				checkMakes(t, name, f, l, d-1, s, false)
			}
		}
	}
}

// TestMakesNothingByMore: a degree above the length is no register's, of whatever list, if only by one coefficient far off.
func TestMakesNothingByMore(t *testing.T) {
	for name, f := range fields() {
		for n := range 10 {
			for _, above := range []int{1, 2, 5, 64, 300, 2000} {
				l := plain.Alone(3, n+above)
				l[0] = 1
				for _, s := range [][]byte{make([]byte, n), make([]byte, n+above), make([]byte, 3000), plain.Mixed(n, n), nil} {
					checkMakes(t, name, f, l, n, s, false)
				}
				checkMakes(t, name, f, l, n+above, make([]byte, n+above), true)
			}
		}
	}
}

// TestMakesLong: by registers of degrees above those that poly.Shift tells.
func TestMakesLong(t *testing.T) {
	t.Parallel()
	l := append(plain.Mixed(4, 1200), 6)
	l[0] = 1
	s := plain.Made(l, plain.Mixed(9, 1200), 1700)
	for name, f := range fields() {
		checkMakes(t, name, f, l, 1200, s, true)
		checkMakes(t, name, f, l, 1199, s, false)
		checkMakes(t, name, f, l, 1200, plain.Added(s, 1699, 1), false)
		checkMakes(t, name, f, l, 1200, plain.Added(s, 1200, 1), false)
		checkMakes(t, name, f, l, 1200, plain.Added(s, 0, 1), false)
	}
}

// TestMakesByNone: a nil Field is asked of what others say true of.
func TestMakesByNone(t *testing.T) {
	checkMakes(t, "nil", nil, []byte{1, 2}, 1, []byte{1, 2, 4, 8}, false)
	checkMakes(t, "nil", nil, []byte{1}, 0, nil, false)
	checkMakes(t, "nil", nil, []byte{1}, 0, []byte{0, 0}, false)
	checkMakes(t, "nil", nil, []byte{1, 5}, 3, []byte{4, 5, 6}, false)
	checkMakes(t, "nil", nil, nil, 0, nil, false)
}
