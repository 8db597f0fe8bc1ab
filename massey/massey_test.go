package massey_test

import (
	"bytes"
	"slices"
	"testing"

	"erratum/api"
	"erratum/field"
	"erratum/massey"
	"erratum/plain"
)

func TestExample(t *testing.T) {
	for name, f := range fields() {
		checkTold(t, name, f, []byte{1, 2, 4, 8}, []byte{1, 2}, 1)
	}
}

// checkTold: just this register and this length are told; Length is that, too.
func checkTold(t *testing.T, name string, f *field.Field, s, want []byte, long int) {
	t.Helper()
	if l, n := massey.Massey(f, s); n != long || !bytes.Equal(l, want) {
		t.Fatalf("%s: Massey(%X) = %X, %d, not %X, %d", name, s, l, n, want, long)
	}
	if n := massey.Length(f, s); n != long {
		t.Fatalf("%s: Length(%X) = %d, not %d", name, s, n, long)
	}
}

// checkRegister: what is told is a normal register of the length that is told, and makes the list; Length is that, too.
func checkRegister(t *testing.T, name string, f *field.Field, s []byte) ([]byte, int) {
	t.Helper()
	l, n := massey.Massey(f, s)
	if !makesPlain(l, n, s) || !massey.Makes(f, l, n, s) {
		t.Fatalf("%s: Massey(%X) = %X, %d does not make it", name, s, l, n)
	}
	if !plain.Normal(l) {
		t.Fatalf("%s: Massey(%X) = %X, %d has noughts at its end", name, s, l, n)
	}
	if long := massey.Length(f, s); long != n {
		t.Fatalf("%s: Length(%X) = %d, not %d", name, s, long, n)
	}
	return l, n
}

// checkLeast: no shorter register makes the list; and where the chapter says so, there is one alone. (A register that makes it makes it by greater lengths, too: the next shorter one is asked alone.)
func checkLeast(t *testing.T, name string, f *field.Field, s []byte) {
	t.Helper()
	l, n := checkRegister(t, name, f, s)
	if n > 0 && countOf(n-1, s) != 0 {
		t.Fatalf("%s: Massey(%X) = %X, %d: a shorter one makes it", name, s, l, n)
	}
	if count := countOf(n, s); count == 0 || 2*n <= len(s) && count != 1 {
		t.Fatalf("%s: Massey(%X) = %X, %d: it is not the one alone", name, s, l, n)
	}
}

func TestMasseyKnown(t *testing.T) {
	for name, f := range fields() {
		for _, c := range []struct {
			s, l []byte
			n    int
		}{
			{nil, []byte{1}, 0},
			{[]byte{}, []byte{1}, 0},
			{[]byte{0}, []byte{1}, 0},
			{[]byte{0, 0, 0}, []byte{1}, 0},
			{make([]byte, 2000), []byte{1}, 0},
			{[]byte{7, 0}, []byte{1}, 1},
			{[]byte{7, 0, 0, 0}, []byte{1}, 1},
			{[]byte{5, 5}, []byte{1, 1}, 1},
			{[]byte{5, 5, 5, 5, 5}, []byte{1, 1}, 1},
			{[]byte{1, 0x8E}, []byte{1, 0x8E}, 1},
			{[]byte{0x80, 0x1D, 0x3A}, []byte{1, 2}, 1},
			{[]byte{0, 1, 0, 0}, []byte{1}, 2},
			{[]byte{0, 0, 9, 0, 0, 0}, []byte{1}, 3},
			{[]byte{0, 1, 1, 1}, []byte{1, 1}, 2},
			{[]byte{9, 1, 1, 1}, []byte{1, 1}, 2},
			{[]byte{9, 9, 1, 1, 1, 1}, []byte{1, 1}, 3},
			{[]byte{1, 1, 0, 1, 1, 0}, []byte{1, 1, 1}, 2},
			{[]byte{1, 0, 2, 0}, []byte{1, 0, 2}, 2},
			{[]byte{1, 0, 0, 2, 0, 0}, []byte{1, 0, 0, 2}, 3},
			{[]byte{0, 5, 0, 5}, []byte{1, 0, 1}, 2},
			{[]byte{3, 5, 9, 17}, []byte{1, 3, 2}, 2}, // Two powers, of 1 and of 2, together.
		} {
			checkTold(t, name, f, c.s, c.l, c.n)
			checkLeast(t, name, f, c.s)
		}
	}
}

// TestLengthKnown: where which register is told is free, its length is not.
func TestLengthKnown(t *testing.T) {
	for name, f := range fields() {
		for _, c := range []struct {
			s []byte
			n int
		}{
			{[]byte{1}, 1}, {[]byte{0xFF}, 1}, {[]byte{0, 1}, 2}, {[]byte{0, 0, 1}, 3}, {[]byte{0, 0, 1, 5, 6}, 3}, {[]byte{1, 0, 1}, 2}, {[]byte{1, 2, 5}, 2},
			{[]byte{1, 2, 4, 8, 0}, 4}, {[]byte{1, 2, 4, 8, 16, 32, 1}, 6}, {[]byte{0, 0, 0, 0, 0, 0, 0, 0x80}, 8}, {[]byte{4, 4, 4, 5}, 3}, {[]byte{1, 1, 0, 1, 1, 1}, 4},
		} {
			if n := massey.Length(f, c.s); n != c.n {
				t.Errorf("%s: Length(%X) = %d, not %d", name, c.s, n, c.n)
			}
			checkLeast(t, name, f, c.s)
		}
	}
}

// TestMasseyOfNoughts: noughts are made by 1 alone, of length 0; with one byte behind them no register is short, but the longest there may be.
func TestMasseyOfNoughts(t *testing.T) {
	t.Parallel()
	for name, f := range fields() {
		for n := range 40 {
			checkTold(t, name, f, make([]byte, n), []byte{1}, 0)
			for _, b := range []byte{1, 2, 0x8E, 0xFF} {
				s := plain.LastOne(n+1, b)
				if _, long := checkRegister(t, name, f, s); long != n+1 {
					t.Fatalf("%s: Massey(%X) tells the length %d", name, s, long)
				}
				checkTold(t, name, f, plain.Behind(s, n+1), []byte{1}, n+1)
			}
		}
	}
}

// TestMasseyByTrying: all registers of less length than is told are tried, and none makes it; of those of that length, where there is to be one alone, no other one.
func TestMasseyByTrying(t *testing.T) {
	t.Parallel()
	lists := append(plain.AllShort(4, byte(0), 1, 2, 0x8E), []byte{1, 2, 4, 8, 16, 33}, []byte{9, 1, 1, 1, 1}, []byte{1, 1, 0, 1, 1, 0}, []byte{3, 5, 9, 17, 33}, []byte{1, 0, 0, 2, 0, 0})
	for _, s := range lists {
		_, n := massey.Massey(field.Of(api.Table), s)
		for less := range min(n, 4) {
			if l := makers(less, s); len(l) > 0 {
				t.Fatalf("Massey(%X) tells the length %d, but %X makes it, too", s, n, l[0])
			}
		}
		for name, f := range fields() {
			if l, long := checkRegister(t, name, f, s); long != n {
				t.Fatalf("%s: Massey(%X) = %X, %d, not of length %d", name, s, l, long, n)
			}
		}
		if 2*n > len(s) {
			continue
		}
		alone := makers(n, s)
		if len(alone) != 1 {
			t.Fatalf("Massey(%X) tells the length %d, but not one register alone of that length makes it: %X", s, n, alone)
		}
		for name, f := range fields() {
			checkTold(t, name, f, s, plain.Strip(alone[0]), n)
		}
	}
}

// makers are the registers of length n that make s, each as n + 1 bytes; all are tried, till there are two.
func makers(n int, s []byte) [][]byte {
	var found [][]byte
	l := plain.Behind([]byte{1}, n)
	for at := 0; at <= n && len(found) < 2; {
		if makesAny(l, n, s) {
			found = append(found, slices.Clone(l))
		}
		for at = 1; at <= n; at++ {
			if l[at]++; l[at] != 0 {
				break
			}
		}
	}
	return found
}

// makesAny is makesPlain of a list that is a register, and not too long: it takes less time.
func makesAny(l []byte, n int, s []byte) bool {
	for i := n; i < len(s); i++ {
		var sum byte
		for j, a := range l {
			sum ^= plain.Mul(a, s[i-j])
		}
		if sum != 0 {
			return false
		}
	}
	return true
}

// TestMasseyOfAllShort: all lists of up to ten of two bytes, of up to six of three, and of up to four of seven.
func TestMasseyOfAllShort(t *testing.T) {
	t.Parallel()
	lists := slices.Concat(plain.AllShort(10, byte(0), 1), plain.AllShort(6, byte(0), 1, 2), plain.AllShort(4, byte(0), 1, 2, 3, 0x1D, 0x8E, 0xFF))
	for name, f := range fields() {
		for _, s := range lists {
			checkLeast(t, name, f, s)
		}
	}
}

// TestMasseyOfRegisters: what a register makes of a start that no shorter one makes tells it, if it is long enough.
func TestMasseyOfRegisters(t *testing.T) {
	t.Parallel()
	for name, f := range fields() {
		for n := range 30 {
			for i, l := range plain.Registers(n) {
				for _, long := range []int{2 * n, 2*n + 1, 3*n + 4} {
					checkTold(t, name, f, plain.Made(l, plain.LastOne(n, byte(i+1)), long), l, n)
				}
			}
		}
	}
}

// TestMasseyOfAnyStart: what a register makes of any start is not told a greater length; and where the same is told, the register is.
func TestMasseyOfAnyStart(t *testing.T) {
	t.Parallel()
	for name, f := range fields() {
		same := 0
		for n := range 24 {
			for i, l := range plain.Registers(n) {
				s := plain.Made(l, plain.Mixed(n+i, n), 2*n+i)
				got, long := checkRegister(t, name, f, s)
				if long > n || long == n && !bytes.Equal(got, l) {
					t.Fatalf("%s: Massey(%X) = %X, %d, but %X of length %d made it", name, s, got, long, l, n)
				}
				if long == n {
					same++
				}
			}
		}
		if same < 100 {
			t.Errorf("%s: only %d starts told the register", name, same)
		}
	}
}

// TestMasseyOfTurned: lists with one byte turned, each of them.
func TestMasseyOfTurned(t *testing.T) {
	t.Parallel()
	for name, f := range fields() {
		for _, n := range []int{0, 1, 2, 3, 6, 9} {
			for i, l := range plain.Registers(n) {
				s := plain.Made(l, plain.Mixed(n+i, n), 2*n+4)
				for at := range s {
					checkLeast(t, name, f, plain.Added(s, at, byte(31*at+i)|1))
				}
			}
		}
	}
}

func TestMasseyOfLists(t *testing.T) {
	t.Parallel()
	for name, f := range fields() {
		for _, s := range lists() {
			checkLeast(t, name, f, s)
		}
	}
}

// TestLengthOfFronts: a list's lengths do not fall from front to front; and they grow just where what was told does not make the next byte, to as much as is missing of one more byte, if that is more.
func TestLengthOfFronts(t *testing.T) {
	t.Parallel()
	for name, f := range fields() {
		for _, s := range append(lists(), plain.Mixed(77, 120)) {
			l, n := massey.Massey(f, nil)
			for i, b := range s {
				want := n
				if plain.Next(l, s[:i]) != b {
					want = max(n, i+1-n)
				}
				if l, n = checkRegister(t, name, f, s[:i+1]); n != want {
					t.Fatalf("%s: Massey(%X) tells the length %d, not %d", name, s[:i+1], n, want)
				}
			}
		}
	}
}

// TestMasseyOfPowers: powers of places, each times a value that is not 0, all together, tell the locator of these places.
func TestMasseyOfPowers(t *testing.T) {
	t.Parallel()
	for name, f := range fields() {
		for _, count := range []int{0, 1, 2, 3, 7, 16, 40, 127} {
			var places []int
			var values []byte
			for k := range count {
				places = append(places, (k*101+count)%255)
				values = append(values, byte(k*7%255)+1)
			}
			checkTold(t, name, f, plain.Powers(places, values, 2*count), plain.Locator(places), count)
			if count < 50 {
				checkTold(t, name, f, plain.Powers(places, values, 2*count+7), plain.Locator(places), count)
			}
		}
	}
}

// TestMasseyLong: longer registers than poly.Shift tells polynomials are told, too.
func TestMasseyLong(t *testing.T) {
	t.Parallel()
	l := append(plain.Mixed(4, 1100), 6)
	l[0] = 1
	s := plain.Made(l, plain.LastOne(1100, 3), 2200)
	for name, f := range map[string]*field.Field{"Table": field.Of(api.Table), "Shift": field.Of(api.Shift)} {
		checkTold(t, name, f, s, l, 1100)
	}
	for name, f := range fields() {
		checkTold(t, name, f, plain.Behind(plain.LastOne(1500, 0x11), 1500), []byte{1}, 1500)
		if _, n := checkRegister(t, name, f, plain.LastOne(1500, 0x11)); n != 1500 {
			t.Errorf("%s: Massey of 1499 noughts and 11 tells the length %d", name, n)
		}
		late := plain.Added(slices.Repeat([]byte{1}, 1400), 1399, 8)
		if _, n := checkRegister(t, name, f, late); n != 1399 {
			t.Errorf("%s: Massey of 1399 times 1 and 9 tells the length %d", name, n)
		}
	}
}

// TestMasseyByNone: a nil Field tells nothing, 0.
func TestMasseyByNone(t *testing.T) {
	for _, s := range append(lists(), make([]byte, 3000)) {
		checkTold(t, "nil", nil, s, nil, 0)
	}
}
