package field_test

import (
	"bytes"
	"math"
	"slices"
	"sync"
	"testing"

	"erratum/api"
	"erratum/field"
	"erratum/plain"
	"erratum/shift"
)

// fields are one of each backend.
func fields() map[string]*field.Field {
	return map[string]*field.Field{
		"Table": field.Of(api.Table),
		"Shift": field.Of(api.Shift),
		"Lanes": field.Of(api.Lanes),
	}
}

// lengths are those at the edges of sixty-four, and some far from them.
func lengths() []int {
	return []int{0, 1, 2, 3, 31, 62, 63, 64, 65, 66, 127, 128, 129, 191, 192, 193, 255, 256, 257, 1000}
}

// far are powers at the edges: round the 255 that there are, and as far off as an int is.
func far() []int {
	l := []int{1 << 15, -1 << 15, 1<<31 - 1, 1 << 31, -1 << 31, -1<<31 - 1, 1 << 32, -1 << 32, 255 << 40, -255 << 40, 255<<40 + 1,
		math.MaxInt, math.MaxInt - 1, math.MinInt, math.MinInt + 1}
	for n := -520; n <= 520; n++ {
		l = append(l, n)
	}
	return l
}

// eachPlain is what Each is to tell, byte by byte.
func eachPlain(a byte, l []byte) []byte {
	var told []byte
	for _, b := range l {
		told = append(told, plain.Mul(a, b))
	}
	return told
}

// pairsPlain is what Pairs is to tell, pair by pair.
func pairsPlain(l, m []byte) []byte {
	var told []byte
	for i := 0; i < len(l) && i < len(m); i++ {
		told = append(told, plain.Mul(l[i], m[i]))
	}
	return told
}

func TestExample(t *testing.T) {
	for name, f := range fields() {
		if got, ok := f.Div(1, 2); got != 0x8E || !ok {
			t.Errorf("%s: Div(01, 02) = %02X, %v, not 8E, true", name, got, ok)
		}
	}
}

func TestOfAndBackend(t *testing.T) {
	for _, n := range []int{1, 2, 3} {
		f := field.Of(n)
		if f == nil {
			t.Fatalf("Of(%d) is nil", n)
		}
		if got := f.Backend(); got != n {
			t.Errorf("Backend of Of(%d) = %d", n, got)
		}
	}
	if api.Table != 1 || api.Shift != 2 || api.Lanes != 3 {
		t.Error("the backends have other numbers")
	}
}

func TestOfNone(t *testing.T) {
	for _, n := range []int{0, 4, 5, -1, -2, -3, 255, 256, 257, 258, 259, 1<<16 + 1, 1<<31 - 1, 1 << 31, -1 << 31, 1<<32 + 1, 1<<32 + 2, 1<<32 + 3,
		math.MaxInt, math.MinInt, math.MinInt + 1, math.MinInt + 2, math.MinInt + 3} {
		if field.Of(n) != nil {
			t.Errorf("Of(%d) is not nil", n)
		}
	}
}

func TestOfIsNew(t *testing.T) {
	for n := 1; n <= 3; n++ {
		if field.Of(n) == field.Of(n) {
			t.Errorf("Of(%d) told the same one twice", n)
		}
	}
}

func TestMul(t *testing.T) {
	for name, f := range fields() {
		plain.AllPairs(func(a, b byte) {
			if got, want := f.Mul(a, b), plain.Mul(a, b); got != want || want != shift.Mul(a, b) {
				t.Fatalf("%s: Mul(%02X, %02X) = %02X, not %02X", name, a, b, got, want)
			}
		})
	}
}

func TestInv(t *testing.T) {
	for name, f := range fields() {
		for a := range 256 {
			want, is := shift.Inv(byte(a))
			if got, ok := f.Inv(byte(a)); got != want || ok != is || ok != (a != 0) {
				t.Fatalf("%s: Inv(%02X) = %02X, %v, not %02X, %v", name, a, got, ok, want, is)
			}
			if a != 0 && plain.Mul(byte(a), want) != 1 {
				t.Fatalf("%s: Inv(%02X) = %02X is none", name, a, want)
			}
		}
	}
}

func TestDiv(t *testing.T) {
	for name, f := range fields() {
		plain.AllPairs(func(a, b byte) {
			got, ok := f.Div(a, b)
			if b == 0 {
				if got != 0 || ok {
					t.Fatalf("%s: Div(%02X, 00) = %02X, %v, not 00, false", name, a, got, ok)
				}
				return
			}
			i, _ := shift.Inv(b)
			if !ok || got != shift.Mul(a, i) || plain.Mul(got, b) != a {
				t.Fatalf("%s: Div(%02X, %02X) = %02X, %v", name, a, b, got, ok)
			}
		})
	}
}

func TestPow(t *testing.T) {
	for name, f := range fields() {
		for a := range 256 {
			for _, n := range far() {
				if got, want := f.Pow(byte(a), n), shift.Pow(byte(a), n); got != want {
					t.Fatalf("%s: Pow(%02X, %d) = %02X, not %02X", name, a, n, got, want)
				}
			}
		}
	}
}

// TestPowStepByStep: powers told without shift: the next one has one factor more.
func TestPowStepByStep(t *testing.T) {
	for name, f := range fields() {
		for a := range 256 {
			p := byte(1)
			for n := range 520 {
				if got := f.Pow(byte(a), n); got != p {
					t.Fatalf("%s: Pow(%02X, %d) = %02X, not %02X", name, a, n, got, p)
				}
				p = plain.Mul(p, byte(a))
			}
		}
	}
}

func TestEach(t *testing.T) {
	for name, f := range fields() {
		for _, long := range lengths() {
			for _, a := range []byte{0, 1, 2, 0x1D, 0x80, 0x8E, 0xFF} {
				l := plain.Mixed(int(a)+long, long)
				if got, want := f.Each(a, l), eachPlain(a, l); !bytes.Equal(got, want) {
					t.Fatalf("%s: Each of %02X and %d bytes = %X, not %X", name, a, long, got, want)
				}
			}
		}
	}
}

// TestEachOfAll: every byte by every byte, in a list of all of them.
func TestEachOfAll(t *testing.T) {
	all := make([]byte, 256)
	for b := range all {
		all[b] = byte(b)
	}
	for name, f := range fields() {
		for a := range 256 {
			if got, want := f.Each(byte(a), all), eachPlain(byte(a), all); !bytes.Equal(got, want) {
				t.Fatalf("%s: Each of %02X and all bytes = %X, not %X", name, a, got, want)
			}
		}
	}
}

// TestPairs: lists of all those lengths with one another, so that either may be the shorter one.
func TestPairs(t *testing.T) {
	for name, f := range fields() {
		for _, first := range lengths() {
			for _, second := range lengths() {
				l, m := plain.Mixed(first+second, first), plain.Mixed(2*second+5, second)
				if got, want := f.Pairs(l, m), pairsPlain(l, m); !bytes.Equal(got, want) {
					t.Fatalf("%s: Pairs of %d and %d bytes = %X, not %X", name, first, second, got, want)
				}
			}
		}
	}
}

// TestPairsOfAll: every byte by every byte, in its place.
func TestPairsOfAll(t *testing.T) {
	var l, m []byte
	plain.AllPairs(func(a, b byte) {
		l, m = append(l, a), append(m, b)
	})
	for name, f := range fields() {
		if !bytes.Equal(f.Pairs(l, m), pairsPlain(l, m)) {
			t.Errorf("%s: Pairs of all bytes with all bytes are others", name)
		}
		if !bytes.Equal(f.Pairs(l, l), pairsPlain(l, l)) {
			t.Errorf("%s: Pairs of a list with itself are others", name)
		}
	}
}

func TestDot(t *testing.T) {
	for name, f := range fields() {
		for _, first := range lengths() {
			for _, second := range lengths() {
				l, m := plain.Mixed(first+3*second, first), plain.Mixed(second+9, second)
				var want byte
				for _, p := range pairsPlain(l, m) {
					want ^= p
				}
				if got := f.Dot(l, m); got != want {
					t.Fatalf("%s: Dot of %d and %d bytes = %02X, not %02X", name, first, second, got, want)
				}
			}
		}
	}
}

func TestDotOfOne(t *testing.T) {
	for name, f := range fields() {
		plain.AllPairs(func(a, b byte) {
			if got := f.Dot([]byte{a}, []byte{b}); got != plain.Mul(a, b) {
				t.Fatalf("%s: Dot of %02X and %02X = %02X", name, a, b, got)
			}
		})
	}
}

// TestNone: nil and empty lists are the same, and have no products.
func TestNone(t *testing.T) {
	none := [][]byte{nil, {}}
	some := []byte{1, 2, 3}
	for name, f := range fields() {
		for _, l := range none {
			if got := f.Each(2, l); len(got) != 0 {
				t.Errorf("%s: Each of none = %X", name, got)
			}
			for _, m := range [][]byte{nil, {}, some} {
				if len(f.Pairs(l, m)) != 0 || len(f.Pairs(m, l)) != 0 {
					t.Errorf("%s: Pairs of none are some", name)
				}
				if f.Dot(l, m) != 0 || f.Dot(m, l) != 0 {
					t.Errorf("%s: Dot of none is not 0", name)
				}
			}
		}
	}
}

// TestBackendChangesNothing: the three tell the same of the same.
func TestBackendChangesNothing(t *testing.T) {
	x, y, z := field.Of(api.Table), field.Of(api.Shift), field.Of(api.Lanes)
	for seed := range 300 {
		l, m, a := plain.Mixed(seed, seed), plain.Mixed(seed+7, 2*seed%300), byte(seed)
		if p := x.Each(a, l); !bytes.Equal(p, y.Each(a, l)) || !bytes.Equal(p, z.Each(a, l)) {
			t.Fatalf("Each of %02X and %X hangs on the backend", a, l)
		}
		if p := x.Pairs(l, m); !bytes.Equal(p, y.Pairs(l, m)) || !bytes.Equal(p, z.Pairs(l, m)) {
			t.Fatalf("Pairs of %X and %X hang on the backend", l, m)
		}
		if s := x.Dot(l, m); s != y.Dot(l, m) || s != z.Dot(l, m) {
			t.Fatalf("Dot of %X and %X hangs on the backend", l, m)
		}
	}
}

// TestHandedInStays: lists are as they were, and so is what lies behind their length; none of it is told.
func TestHandedInStays(t *testing.T) {
	for name, f := range fields() {
		for _, long := range lengths() {
			l, m := plain.Mixed(long, long), plain.Mixed(long+1, long)
			wholeL, innerL := plain.Framed(l)
			wholeM, innerM := plain.Framed(m)
			wasL, wasM := slices.Clone(wholeL), slices.Clone(wholeM)
			if got := f.Each(3, innerL); !bytes.Equal(got, eachPlain(3, l)) {
				t.Errorf("%s: Each reads behind a list of %d", name, long)
			}
			if got := f.Pairs(innerL, innerM); !bytes.Equal(got, pairsPlain(l, m)) {
				t.Errorf("%s: Pairs read behind lists of %d", name, long)
			}
			if f.Dot(innerL, innerM) != f.Dot(l, m) {
				t.Errorf("%s: Dot reads behind lists of %d", name, long)
			}
			if !bytes.Equal(wholeL, wasL) || !bytes.Equal(wholeM, wasM) {
				t.Errorf("%s: lists of %d bytes were changed", name, long)
			}
		}
	}
}

// TestToldIsNew: what is told stays, whatever becomes of what was handed in or of what was told beside it.
func TestToldIsNew(t *testing.T) {
	for name, f := range fields() {
		for _, long := range lengths() {
			l, m := plain.Mixed(long, long), plain.Mixed(long+1, long)
			each, pairs := eachPlain(1, l), pairsPlain(l, m)
			e, p := f.Each(1, l), f.Pairs(l, m)
			for _, other := range [][]byte{f.Each(1, l), f.Pairs(l, m), l, m} {
				clear(other[:cap(other)])
			}
			if !bytes.Equal(e, each) || !bytes.Equal(p, pairs) {
				t.Errorf("%s: what is told of %d bytes shares memory", name, long)
			}
			clear(e[:cap(e)])
			if !bytes.Equal(p, pairs) {
				t.Errorf("%s: Each and Pairs of %d bytes share memory", name, long)
			}
		}
	}
}

func TestNilField(t *testing.T) {
	var f *field.Field
	if f.Backend() != 0 {
		t.Error("Backend of nil is not 0")
	}
	for _, a := range []byte{0, 1, 2, 0xFF} {
		if f.Mul(a, 1) != 0 || f.Mul(1, a) != 0 {
			t.Error("Mul of nil is not 0")
		}
		if got, ok := f.Inv(a); got != 0 || ok {
			t.Error("Inv of nil is not 0, false")
		}
		for _, b := range []byte{0, 1, 2} {
			if got, ok := f.Div(a, b); got != 0 || ok {
				t.Error("Div of nil is not 0, false")
			}
		}
		for _, n := range []int{0, 1, -1, math.MaxInt, math.MinInt} {
			if f.Pow(a, n) != 0 {
				t.Error("Pow of nil is not 0")
			}
		}
	}
	for _, l := range [][]byte{nil, {}, {1}, plain.Mixed(1, 200)} {
		if len(f.Each(1, l)) != 0 || len(f.Pairs(l, l)) != 0 || f.Dot(l, l) != 0 {
			t.Error("Each, Pairs or Dot of nil tells something")
		}
	}
}

// TestSeveralAtATime: many ask one field, the first ones while it is not made yet; run with -race it tells more.
func TestSeveralAtATime(t *testing.T) {
	for name, f := range fields() {
		var all sync.WaitGroup
		wrong := make([]bool, 16)
		for who := range wrong {
			all.Go(func() {
				l, m := plain.Mixed(who, 200), plain.Mixed(who+1, 180)
				q, ok := f.Div(1, 2)
				wrong[who] = q != 0x8E || !ok || f.Mul(0x80, 2) != 0x1D || f.Pow(2, -1) != 0x8E ||
					!bytes.Equal(f.Each(byte(who), l), eachPlain(byte(who), l)) ||
					!bytes.Equal(f.Pairs(l, m), pairsPlain(l, m))
			})
		}
		all.Wait()
		if slices.Contains(wrong, true) {
			t.Errorf("%s: several at a time were told otherwise", name)
		}
	}
}
