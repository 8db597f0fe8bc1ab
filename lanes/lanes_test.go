package lanes_test

import (
	"bytes"
	"math"
	"slices"
	"testing"

	"erratum/api"
	"erratum/lanes"
	"erratum/plain"
	"erratum/shift"
)

// mixed are 64 bytes of many kinds; another seed tells others.
func mixed(seed int) []byte {
	l := make([]byte, 64)
	for n := range l {
		l[n] = byte((n+seed)*(n+seed)*37 + 101*n + seed)
	}
	return l
}

// two is a call of two planes, and what it tells of a lane.
type two struct {
	call func(p, q api.Planes) api.Planes
	lane func(a, b byte) byte
}

// twos are all calls of two planes.
func twos() map[string]two {
	return map[string]two{
		"Add": {lanes.Add, func(a, b byte) byte { return a ^ b }},
		"Mul": {lanes.Mul, shift.Mul},
	}
}

// pairs lays the pairs of bytes over the lanes: as first goes from 0 to 65535, each lane has each pair once.
func pairs(first int) (a, b []byte) {
	a, b = make([]byte, 64), make([]byte, 64)
	for n := range 64 {
		pair := first + n*1021
		a[n], b[n] = byte(pair), byte(pair>>8)
	}
	return a, b
}

func TestExample(t *testing.T) {
	p := lanes.Mul(lanes.Pack([]byte{0x02, 0x80}), lanes.Pack([]byte{0x03, 0x02}))
	if got := lanes.Lane(p, 1); got != 0x1D {
		t.Errorf("lane 1 = %02X, not 1D", got)
	}
	if got := lanes.Lane(p, 0); got != 0x06 {
		t.Errorf("lane 0 = %02X, not 06", got)
	}
}

// TestPackLays: the bit n of the plane i is the bit i of the lane n.
func TestPackLays(t *testing.T) {
	for n := range 64 {
		for i := range 8 {
			l := make([]byte, 64)
			l[n] = 1 << i
			var want api.Planes
			want[i] = 1 << n
			if got := lanes.Pack(l); got != want {
				t.Fatalf("Pack of bit %d in lane %d = %X, not %X", i, n, got, want)
			}
		}
	}
	want := api.Planes{0b101, 0b001, 0, 0, 0, 0, 0, 0b110}
	if got := lanes.Pack([]byte{0x03, 0x80, 0x81}); got != want {
		t.Errorf("Pack of 03, 80, 81 = %X, not %X", got, want)
	}
}

func TestPackOfEachLength(t *testing.T) {
	long := slices.Concat(mixed(1), mixed(2), mixed(3))
	for size := range len(long) + 1 {
		want := make([]byte, 64)
		copy(want, long[:size])
		p := lanes.Pack(long[:size])
		if got := lanes.Unpack(p); !bytes.Equal(got, want) {
			t.Fatalf("Pack of %d bytes has the lanes %X, not %X", size, got, want)
		}
	}
}

func TestPackOfNone(t *testing.T) {
	if got := lanes.Pack(nil); got != (api.Planes{}) {
		t.Errorf("Pack of nil = %X, not noughts", got)
	}
	if got := lanes.Pack([]byte{}); got != (api.Planes{}) {
		t.Errorf("Pack of no bytes = %X, not noughts", got)
	}
}

// TestPackReadsNoMore: what lies behind a list's length is no lane.
func TestPackReadsNoMore(t *testing.T) {
	l := slices.Repeat([]byte{0xFF}, 64)
	for size := range 64 {
		p := lanes.Pack(l[:size])
		for i, plane := range p {
			if plane != 1<<size-1 {
				t.Fatalf("plane %d of Pack of %d bytes FF = %X", i, size, plane)
			}
		}
	}
}

func TestPackKeepsNothing(t *testing.T) {
	l := mixed(4)
	before := slices.Clone(l)
	p := lanes.Pack(l)
	if !bytes.Equal(l, before) {
		t.Error("Pack changed its list")
	}
	kept := p
	clear(l)
	if p != kept || !bytes.Equal(lanes.Unpack(p), before) {
		t.Error("Pack kept its list")
	}
}

func TestUnpack(t *testing.T) {
	for i := range 8 {
		for n := range 64 {
			var p api.Planes
			p[i] = 1 << n
			want := make([]byte, 64)
			want[n] = 1 << i
			if got := lanes.Unpack(p); !bytes.Equal(got, want) {
				t.Fatalf("Unpack of bit %d in plane %d = %X, not %X", n, i, got, want)
			}
		}
	}
	for b := range 256 {
		l := slices.Repeat([]byte{byte(b)}, 64)
		if got := lanes.Unpack(lanes.Pack(l)); !bytes.Equal(got, l) {
			t.Fatalf("Unpack of 64 times %02X = %X", b, got)
		}
	}
	if got := lanes.Unpack(api.Planes{}); !bytes.Equal(got, make([]byte, 64)) {
		t.Errorf("Unpack of noughts = %X, not 64 noughts", got)
	}
}

func TestPackOfUnpacked(t *testing.T) {
	for seed := range 100 {
		var p api.Planes
		for i := range p {
			p[i] = uint64(seed+1) * 0x9E3779B97F4A7C15 * uint64(2*i+1)
		}
		if got := lanes.Pack(lanes.Unpack(p)); got != p {
			t.Fatalf("Pack of what is unpacked = %X, not %X", got, p)
		}
	}
}

func TestUnpackIsNew(t *testing.T) {
	p := lanes.Pack(mixed(5))
	first, second := lanes.Unpack(p), lanes.Unpack(p)
	clear(first[:cap(first)])
	if !bytes.Equal(second, mixed(5)) || !bytes.Equal(lanes.Unpack(p), mixed(5)) {
		t.Error("two lists of Unpack share memory")
	}
}

func TestLane(t *testing.T) {
	for seed := range 256 {
		l := mixed(seed)
		p := lanes.Pack(l)
		for n := range 64 {
			if got := lanes.Lane(p, n); got != l[n] {
				t.Fatalf("Lane %d = %02X, not %02X", n, got, l[n])
			}
		}
	}
}

func TestLaneOutside(t *testing.T) {
	full := lanes.Pack(slices.Repeat([]byte{0xFF}, 64))
	for _, n := range []int{-1, -2, -63, -64, -65, -128, 64, 65, 127, 128, 255, 256, 320, 1 << 16, -1 << 16,
		1<<31 - 1, 1 << 31, -1 << 31, 1 << 32, -1 << 32, 1<<32 + 1, math.MaxInt, math.MaxInt - 63, math.MinInt, math.MinInt + 1} {
		if got := lanes.Lane(full, n); got != 0 {
			t.Errorf("Lane %d = %02X, not 0", n, got)
		}
	}
	if lanes.Lane(full, 0) != 0xFF || lanes.Lane(full, 63) != 0xFF {
		t.Error("the first or the last lane is not told")
	}
}

// TestTwos: each pair of bytes, in each lane.
func TestTwos(t *testing.T) {
	for name, of := range twos() {
		for first := range 1 << 16 {
			a, b := pairs(first)
			got := lanes.Unpack(of.call(lanes.Pack(a), lanes.Pack(b)))
			for n := range 64 {
				if want := of.lane(a[n], b[n]); got[n] != want {
					t.Fatalf("%s of %02X and %02X in lane %d = %02X, not %02X", name, a[n], b[n], n, got[n], want)
				}
			}
		}
	}
}

// TestScale: each byte in each lane, by each byte.
func TestScale(t *testing.T) {
	plain.AllPairs(func(first, a byte) {
		l := make([]byte, 64)
		for n := range l {
			l[n] = first + byte(5*n)
		}
		got := lanes.Unpack(lanes.Scale(lanes.Pack(l), a))
		for n := range l {
			if want := plain.Mul(l[n], a); got[n] != want || want != shift.Mul(l[n], a) {
				t.Fatalf("Scale of %02X in lane %d by %02X = %02X, not %02X", l[n], n, a, got[n], want)
			}
		}
	})
}

// TestSquare: each byte in each lane.
func TestSquare(t *testing.T) {
	for first := range 256 {
		l := make([]byte, 64)
		for n := range l {
			l[n] = byte(first + 5*n)
		}
		got := lanes.Unpack(lanes.Square(lanes.Pack(l)))
		for n := range l {
			if want := plain.Mul(l[n], l[n]); got[n] != want || want != shift.Mul(l[n], l[n]) {
				t.Fatalf("Square of %02X in lane %d = %02X, not %02X", l[n], n, got[n], want)
			}
		}
	}
}

// TestTheSameByOthers: Scale is Mul by the same byte in all lanes, Square is Mul by itself, Add of the same is nought.
func TestTheSameByOthers(t *testing.T) {
	for a := range 256 {
		p, q := lanes.Pack(mixed(a)), lanes.Pack(slices.Repeat([]byte{byte(a)}, 64))
		if lanes.Scale(p, byte(a)) != lanes.Mul(p, q) || lanes.Mul(p, q) != lanes.Mul(q, p) {
			t.Fatalf("Scale by %02X is another one than Mul", a)
		}
		if lanes.Square(p) != lanes.Mul(p, p) {
			t.Fatalf("Square of %X is another one than Mul", p)
		}
		if lanes.Add(p, p) != (api.Planes{}) || lanes.Add(p, q) != lanes.Add(q, p) || lanes.Add(p, api.Planes{}) != p {
			t.Fatalf("Add of %X and %X is no sum", p, q)
		}
	}
}

// alone fails, unless the lanes but n are the same in both, and n is what is wanted.
func alone(t *testing.T, name string, n int, was, is api.Planes, want byte) {
	t.Helper()
	expected := lanes.Unpack(was)
	expected[n] = want
	if got := lanes.Unpack(is); !bytes.Equal(got, expected) {
		t.Fatalf("%s, lane %d turned: %X, not %X", name, n, got, expected)
	}
}

// TestLanesApart: a byte that is turned in one lane is to be seen in that lane alone.
func TestLanesApart(t *testing.T) {
	for n := range 64 {
		for turn := 1; turn < 256; turn++ {
			l, other := mixed(turn), mixed(turn+77)
			p, q := lanes.Pack(l), lanes.Pack(other)
			turned := slices.Clone(l)
			turned[n] ^= byte(turn)
			r := lanes.Pack(turned)
			for name, of := range twos() {
				alone(t, name+" of the first", n, of.call(p, q), of.call(r, q), of.lane(turned[n], other[n]))
				alone(t, name+" of the second", n, of.call(q, p), of.call(q, r), of.lane(turned[n], other[n]))
			}
			a := byte(turn)
			alone(t, "Scale", n, lanes.Scale(p, a), lanes.Scale(r, a), shift.Mul(turned[n], a))
			alone(t, "Square", n, lanes.Square(p), lanes.Square(r), shift.Mul(turned[n], turned[n]))
		}
	}
}

// TestHandedInStays: planes that were handed in are as they were.
func TestHandedInStays(t *testing.T) {
	p, q := lanes.Pack(mixed(8)), lanes.Pack(mixed(9))
	wasP, wasQ := p, q
	for name, call := range map[string]func(){
		"Unpack": func() { lanes.Unpack(p) },
		"Lane":   func() { lanes.Lane(p, 3) },
		"Add":    func() { lanes.Add(p, q) },
		"Mul":    func() { lanes.Mul(p, q) },
		"Scale":  func() { lanes.Scale(p, 0x53) },
		"Square": func() { lanes.Square(p) },
	} {
		call()
		if p != wasP || q != wasQ {
			t.Errorf("%s changed planes that were handed in", name)
		}
	}
}
