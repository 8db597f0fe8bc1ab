package shift_test

import (
	"math"
	"sync"
	"testing"

	"erratum/plain"
	"erratum/shift"
)

// wide multiplies coefficient by coefficient: that of x^k is the sum of all a[i] b[k-i].
func wide(a, b byte) uint16 {
	var w uint16
	for k := 0; k <= 14; k++ {
		ones := 0
		for i := 0; i <= k; i++ {
			ones += int(uint(a)>>i&1) * int(uint(b)>>(k-i)&1)
		}
		w |= uint16(ones%2) << k
	}
	return w
}

// remainders are what is left of each x^k, told one from the other: x times it, less 11D where that is too great.
func remainders() [16]byte {
	var l [16]byte
	r := uint16(1)
	for k := range l {
		l[k] = byte(r)
		r <<= 1
		if r > 0xFF {
			r ^= 0x11D
		}
	}
	return l
}

// repeated is a multiplied n times with itself, one factor behind the other.
func repeated(a byte, n int) byte {
	p := byte(1)
	for range n {
		p = plain.Mul(p, a)
	}
	return p
}

func TestExample(t *testing.T) {
	if got := shift.Mul(0x80, 0x02); got != 0x1D {
		t.Errorf("Mul(80, 02) = %02X, not 1D", got)
	}
	if got, ok := shift.Inv(0x02); got != 0x8E || !ok {
		t.Errorf("Inv(02) = %02X, %v, not 8E, true", got, ok)
	}
}

func TestWideKnown(t *testing.T) {
	for _, c := range []struct {
		a, b byte
		want uint16
	}{
		{0, 0, 0}, {0, 0xFF, 0}, {0xFF, 0, 0}, {1, 0xFF, 0xFF}, {0xFF, 1, 0xFF},
		{3, 3, 5}, {0x80, 0x80, 0x4000}, {0x80, 2, 0x100}, {0xFF, 0xFF, 0x5555}, {0xFF, 0x80, 0x7F80},
	} {
		if got := shift.Wide(c.a, c.b); got != c.want {
			t.Errorf("Wide(%02X, %02X) = %04X, not %04X", c.a, c.b, got, c.want)
		}
	}
}

func TestWideAll(t *testing.T) {
	plain.AllPairs(func(a, b byte) {
		if got := shift.Wide(a, b); got != wide(a, b) {
			t.Fatalf("Wide(%02X, %02X) = %04X, not %04X", a, b, got, wide(a, b))
		}
	})
}

func TestReduceKnown(t *testing.T) {
	for _, c := range []struct {
		w    uint16
		want byte
	}{
		{0, 0}, {1, 1}, {0xFF, 0xFF}, {0x100, 0x1D}, {0x11D, 0}, {0x1FF, 0xE2},
		{0x200, 0x3A}, {0x400, 0x74}, {0x800, 0xE8}, {0x1000, 0xCD}, {0x2000, 0x87}, {0x4000, 0x13}, {0x8000, 0x26},
		{0x11D << 7, 0}, {0x11D<<7 | 1, 1}, {0x11D<<7 ^ 0x11D<<3 ^ 0xA5, 0xA5},
	} {
		if got := shift.Reduce(c.w); got != c.want {
			t.Errorf("Reduce(%04X) = %02X, not %02X", c.w, got, c.want)
		}
	}
}

func TestReduceAll(t *testing.T) {
	left := remainders()
	for w := range 1 << 16 {
		var want byte
		for k, r := range left {
			if w>>k&1 == 1 {
				want ^= r
			}
		}
		if got := shift.Reduce(uint16(w)); got != want {
			t.Fatalf("Reduce(%04X) = %02X, not %02X", w, got, want)
		}
	}
}

func TestMulEdges(t *testing.T) {
	for b := range 256 {
		a := byte(b)
		if shift.Mul(a, 0) != 0 || shift.Mul(0, a) != 0 {
			t.Errorf("%02X times 0 is not 0", a)
		}
		if shift.Mul(a, 1) != a || shift.Mul(1, a) != a {
			t.Errorf("%02X times 1 is not itself", a)
		}
	}
	if got := shift.Mul(0xFF, 0xFF); got != 0xE2 {
		t.Errorf("Mul(FF, FF) = %02X, not E2", got)
	}
}

func TestMulAll(t *testing.T) {
	plain.AllPairs(func(a, b byte) {
		got := shift.Mul(a, b)
		if got != plain.Mul(a, b) {
			t.Fatalf("Mul(%02X, %02X) = %02X, not %02X", a, b, got, plain.Mul(a, b))
		}
		if got != shift.Reduce(shift.Wide(a, b)) {
			t.Fatalf("Mul(%02X, %02X) is not Reduce of Wide", a, b)
		}
	})
}

// TestDivided: bytes but 0 are multiplied, and divided, without a remainder.
func TestDivided(t *testing.T) {
	plain.AllPairs(func(a, b byte) {
		if b == 0 {
			return
		}
		inverse, ok := shift.Inv(b)
		if !ok || shift.Mul(shift.Mul(a, b), inverse) != a || shift.Mul(shift.Mul(a, inverse), b) != a {
			t.Fatalf("%02X, by %02X and back, is another one", a, b)
		}
		if a != 0 && shift.Mul(a, b) == 0 {
			t.Fatalf("%02X times %02X is 0", a, b)
		}
	})
}

func TestInv(t *testing.T) {
	if got, ok := shift.Inv(0); got != 0 || ok {
		t.Errorf("Inv(00) = %02X, %v, not 0, false", got, ok)
	}
	if got, ok := shift.Inv(1); got != 1 || !ok {
		t.Errorf("Inv(01) = %02X, %v, not 1, true", got, ok)
	}
	for a := 1; a < 256; a++ {
		got, ok := shift.Inv(byte(a))
		if !ok || plain.Mul(byte(a), got) != 1 {
			t.Errorf("Inv(%02X) = %02X, %v: times it that is not 1", a, got, ok)
		}
	}
}

func TestPowKnown(t *testing.T) {
	// The powers of 2 from 0 on.
	for n, want := range []byte{1, 2, 4, 8, 16, 32, 64, 128, 29, 58, 116, 232, 205, 135, 19, 38, 76, 152, 45, 90, 180, 117, 234, 201, 143, 3, 6} {
		if got := shift.Pow(2, n); got != want {
			t.Errorf("Pow(02, %d) = %d, not %d", n, got, want)
		}
	}
	if got := shift.Pow(2, -1); got != 0x8E {
		t.Errorf("Pow(02, -1) = %02X, not 8E", got)
	}
}

func TestPowOfAll(t *testing.T) {
	for a := 1; a < 256; a++ {
		inverse, _ := shift.Inv(byte(a))
		up, down := byte(1), byte(1)
		for n := range 600 {
			if got := shift.Pow(byte(a), n); got != up {
				t.Fatalf("Pow(%02X, %d) = %02X, not %02X", a, n, got, up)
			}
			if got := shift.Pow(byte(a), -n); got != down {
				t.Fatalf("Pow(%02X, %d) = %02X, not %02X", a, -n, got, down)
			}
			up, down = plain.Mul(up, byte(a)), plain.Mul(down, inverse)
		}
	}
}

func TestPowOfNought(t *testing.T) {
	if got := shift.Pow(0, 0); got != 1 {
		t.Errorf("Pow(00, 0) = %02X, not 1", got)
	}
	for _, n := range []int{1, 2, 254, 255, 256, 510, -1, -2, -255, -256, math.MaxInt, math.MinInt, math.MinInt + 1} {
		if got := shift.Pow(0, n); got != 0 {
			t.Errorf("Pow(00, %d) = %02X, not 0", n, got)
		}
	}
}

// TestPowFar: the power 255 of a byte but 0 is 1, so a power far off is one of the first 255.
func TestPowFar(t *testing.T) {
	far := []int{math.MaxInt, math.MaxInt - 1, math.MinInt, math.MinInt + 1, math.MinInt + 2,
		1 << 31, 1<<31 - 1, -1 << 31, -1<<31 - 1, 1 << 32, -1 << 32, 255 << 40, -255 << 40}
	for a := 1; a < 256; a++ {
		for _, n := range far {
			want := repeated(byte(a), (n%255+255)%255)
			if got := shift.Pow(byte(a), n); got != want {
				t.Fatalf("Pow(%02X, %d) = %02X, not %02X", a, n, got, want)
			}
		}
	}
}

// TestTwoTellsAll: 2 is an element whose powers are all bytes but 0.
func TestTwoTellsAll(t *testing.T) {
	met := map[byte]bool{}
	for n := range 255 {
		met[shift.Pow(2, n)] = true
	}
	if len(met) != 255 || met[0] {
		t.Errorf("the powers of 2 are %d, 0 among them: %v", len(met), met[0])
	}
}

// TestAskedByMany: whoever asks at a time is told the same.
func TestAskedByMany(t *testing.T) {
	var all sync.WaitGroup
	for range 8 {
		all.Go(func() {
			plain.AllPairs(func(a, b byte) {
				if shift.Mul(a, b) != plain.Mul(a, b) || shift.Pow(a, 2) != plain.Mul(a, a) {
					t.Errorf("another answer for %02X, %02X", a, b)
				}
			})
		})
	}
	all.Wait()
}
