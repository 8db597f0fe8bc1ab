package massey_test

import (
	"slices"
	"testing"

	"erratum/field"
	"erratum/massey"
	"erratum/plain"
)

// checkNext: Next tells that byte, true.
func checkNext(t *testing.T, name string, f *field.Field, l []byte, n int, s []byte, want byte) {
	t.Helper()
	if b, ok := massey.Next(f, l, n, s); !ok || b != want {
		t.Fatalf("%s: Next(%X, %d, %X) = %02X, %v, not %02X", name, l, n, s, b, ok, want)
	}
}

// checkNoNext: Next tells 0, false.
func checkNoNext(t *testing.T, name string, f *field.Field, l []byte, n int, s []byte) {
	t.Helper()
	if b, ok := massey.Next(f, l, n, s); ok || b != 0 {
		t.Fatalf("%s: Next(%X, %d, %X) = %02X, %v", name, l, n, s, b, ok)
	}
}

func TestNextKnown(t *testing.T) {
	for name, f := range fields() {
		for _, c := range []struct {
			l    []byte
			n    int
			s    []byte
			want byte
		}{
			{[]byte{1, 2}, 1, []byte{1, 2, 4, 8}, 16},
			{[]byte{1, 2}, 1, []byte{0x20, 0x40, 0x80}, 0x1D},
			{[]byte{1, 2, 0, 0, 0, 0, 0}, 1, []byte{1, 2, 4, 8}, 16},
			{[]byte{1, 2}, 4, []byte{9, 9, 9, 8}, 16},
			{[]byte{1}, 0, nil, 0},
			{[]byte{1}, 0, []byte{0, 0}, 0},
			{[]byte{1}, 2, []byte{3, 4}, 0},
			{[]byte{1, 1}, 1, []byte{7}, 7},
			{[]byte{1, 0, 1}, 2, []byte{7, 3}, 7},
			{[]byte{1, 1, 1}, 2, []byte{7, 3}, 4},
			{[]byte{1, 1, 1}, 2, []byte{1, 1, 0, 1, 1}, 0},
			{[]byte{1, 1, 1}, 2, []byte{1, 1, 0, 1}, 1},
			{[]byte{1, 0, 0, 2}, 3, []byte{0x80, 0, 0}, 0x1D},
			{[]byte{1, 3, 2}, 2, []byte{3, 5, 9}, 17},
		} {
			checkNext(t, name, f, c.l, c.n, c.s, c.want)
		}
		for _, c := range []struct {
			l []byte
			n int
			s []byte
		}{
			{[]byte{1, 2}, 1, []byte{1, 2, 4, 9}}, {[]byte{1, 2}, 1, []byte{1, 2, 5, 10}}, {[]byte{1, 2}, 0, []byte{1, 2, 4, 8}}, {[]byte{1, 2}, -1, []byte{1, 2, 4, 8}},
			{[]byte{1, 2}, 5, []byte{1, 2, 4, 8}}, {[]byte{1, 2}, 1, nil}, {[]byte{1}, 1, nil}, {[]byte{1}, -1, nil}, {[]byte{2}, 0, nil}, {[]byte{0}, 0, nil}, {nil, 0, nil},
			{nil, 2, []byte{1, 2}}, {[]byte{0, 1}, 1, []byte{1, 2}}, {[]byte{2, 4}, 1, []byte{1, 2, 4, 8}}, {[]byte{1, 0, 0, 5}, 2, []byte{1, 2, 3, 4}}, {[]byte{1}, 0, []byte{0, 1}},
		} {
			checkNoNext(t, name, f, c.l, c.n, c.s)
		}
	}
}

// checkTheOne: with the byte that is told behind it the list is made, and with no other one.
func checkTheOne(t *testing.T, name string, f *field.Field, l []byte, n int, s []byte) {
	t.Helper()
	next, ok := massey.Next(f, l, n, s)
	if !ok {
		t.Fatalf("%s: Next(%X, %d, %X) tells nothing", name, l, n, s)
	}
	for b := range 256 {
		longer := append(slices.Clone(s), byte(b))
		if want := byte(b) == next; massey.Makes(f, l, n, longer) != want || makesPlain(l, n, longer) != want {
			t.Fatalf("%s: Next(%X, %d, %X) = %02X, but %02X may stand there, or this may not", name, l, n, s, next, b)
		}
	}
}

// TestNextOfAllShort: all short lists by all short ones, and all lengths round them: the one byte, or 0, false, if it does not make the list.
func TestNextOfAllShort(t *testing.T) {
	t.Parallel()
	for _, l := range plain.AllShort(3, byte(0), 1, 0x8E) {
		for _, s := range plain.AllShort(4, byte(0), 1, 2) {
			for n := -2; n <= 6; n++ {
				makes := makesPlain(l, n, s)
				for name, f := range fields() {
					if makes {
						checkNext(t, name, f, l, n, s, plain.Next(l, s))
					} else {
						checkNoNext(t, name, f, l, n, s)
					}
				}
			}
		}
	}
}

// TestNext: going on with what is told makes what the register makes; from front to front no other byte may stand behind.
func TestNext(t *testing.T) {
	t.Parallel()
	for name, f := range fields() {
		for _, n := range []int{0, 1, 2, 3, 5, 12} {
			for i, l := range plain.Registers(n) {
				s := plain.Made(l, plain.Mixed(n+i, n), 3*n+6)
				for long := n; long < len(s); long++ {
					checkNext(t, name, f, l, n, s[:long], s[long])
					checkNext(t, name, f, plain.Behind(l, 5), n, s[:long], s[long])
					checkNext(t, name, f, l, long, s[:long], s[long])
				}
				checkTheOne(t, name, f, l, n, s[:n])
				checkTheOne(t, name, f, plain.Behind(l, 9), n, s[:2*n])
				checkTheOne(t, name, f, l, n, s)
			}
		}
	}
}

// TestNextOfTurned: a list that is not made has nothing next, wherever it is turned.
func TestNextOfTurned(t *testing.T) {
	t.Parallel()
	for name, f := range fields() {
		for n := range 10 {
			for i, l := range plain.Registers(n) {
				s := plain.Made(l, plain.Mixed(n+i, n), 2*n+4)
				for at := range s {
					turned := plain.Added(s, at, byte(at%255)+1)
					if makesPlain(l, n, turned) {
						checkNext(t, name, f, l, n, turned, plain.Next(l, turned))
					} else {
						checkNoNext(t, name, f, l, n, turned)
					}
				}
			}
		}
	}
}

// TestNextOfEachLength: of a length that is none there is nothing next; of each from the degree to the list's end, where it makes it, the same byte.
func TestNextOfEachLength(t *testing.T) {
	t.Parallel()
	for name, f := range fields() {
		for _, d := range []int{0, 1, 2, 7, 30} {
			l := append(plain.Mixed(d, d), 9)
			l[0] = 1
			s := plain.Made(l, plain.Mixed(3, d), 2*d+9)
			for _, n := range slices.Concat(plain.Around(len(s)), plain.Around(d)) {
				if n >= len(plain.Strip(l))-1 && n <= len(s) {
					checkNext(t, name, f, l, n, s, plain.Next(l, s))
				} else {
					checkNoNext(t, name, f, l, n, s)
				}
			}
		}
	}
}

// TestNextOfMassey: with what its shortest register makes next a list has no longer one.
func TestNextOfMassey(t *testing.T) {
	t.Parallel()
	for name, f := range fields() {
		for _, s := range lists() {
			l, n := massey.Massey(f, s)
			b, ok := massey.Next(f, l, n, s)
			if longer := append(slices.Clone(s), b); !ok || massey.Length(f, longer) != n {
				t.Errorf("%s: Next of what Massey(%X) tells = %02X, %v: it needs a longer one with it", name, s, b, ok)
			}
		}
	}
}

// TestNextLong: by registers of degrees above those that poly.Shift tells.
func TestNextLong(t *testing.T) {
	t.Parallel()
	l := append(plain.Mixed(4, 1200), 6)
	l[0] = 1
	s := plain.Made(l, plain.Mixed(9, 1200), 1500)
	for name, f := range fields() {
		checkNext(t, name, f, l, 1200, s[:1499], s[1499])
		checkNext(t, name, f, l, 1200, s[:1200], s[1200])
		checkNoNext(t, name, f, l, 1199, s)
		checkNoNext(t, name, f, l, 1200, plain.Added(s, 1499, 1))
	}
}

// TestNextByNone: a nil Field is asked of what others tell a byte of.
func TestNextByNone(t *testing.T) {
	checkNoNext(t, "nil", nil, []byte{1, 2}, 1, []byte{1, 2, 4, 8})
	checkNoNext(t, "nil", nil, []byte{1}, 0, nil)
	checkNoNext(t, "nil", nil, []byte{1, 5}, 3, []byte{4, 5, 6})
	checkNoNext(t, "nil", nil, nil, 0, nil)
}
