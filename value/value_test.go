package value_test

import (
	"bytes"
	"slices"
	"sync"
	"testing"

	"erratum/api"
	"erratum/field"
	"erratum/plain"
	"erratum/poly"
	"erratum/quot"
	"erratum/value"
)

// fields are one of each backend.
func fields() map[string]*field.Field {
	return map[string]*field.Field{
		"Table": field.Of(api.Table),
		"Shift": field.Of(api.Shift),
		"Lanes": field.Of(api.Lanes),
	}
}

// all are the 256 bytes, rising.
func all() []byte {
	l := make([]byte, 256)
	for x := range l {
		l[x] = byte(x)
	}
	return l
}

// places are lists of unlike ones: none, one, some, all of them, rising and otherwise.
func places() [][]byte {
	turned := all()
	slices.Reverse(turned)
	mixed := all()
	for i := range mixed {
		mixed[i] = byte(i*37 + 11)
	}
	return [][]byte{nil, {}, {0}, {1}, {0xFF}, {0, 1}, {1, 0}, {5, 0, 9}, {0x80, 0xFF, 0x1D, 2}, mixed[:20], mixed[30:95], turned[:100], all(), turned, mixed}
}

// twice are lists of places of which at least two are the same, side by side and far apart.
func twice() [][]byte {
	l := [][]byte{{0, 0}, {7, 7}, {0, 1, 0}, {1, 2, 3, 3}, {3, 3, 1, 2}, make([]byte, 70), append(all(), 0), append(all(), 0xFF), append(all(), all()...)}
	for _, xs := range places() {
		for _, i := range []int{0, len(xs) / 2, len(xs) - 1} {
			if i >= 0 && i < len(xs) {
				l = append(l, append(slices.Clone(xs), xs[i]), append([]byte{xs[i]}, xs...))
			}
		}
	}
	return l
}

// zerosPlain are the bytes at which a polynomial is 0, rising.
func zerosPlain(p []byte) []byte {
	return slices.DeleteFunc(all(), func(x byte) bool { return plain.Value(p, x) != 0 })
}

func TestExamples(t *testing.T) {
	for name, f := range fields() {
		if got := value.From(f, []byte{1, 2}); !bytes.Equal(got, []byte{2, 3, 1}) {
			t.Errorf("%s: From of 1, 2 = %X, not 2, 3, 1", name, got)
		}
		if got, ok := value.Through(f, []byte{0, 1}, []byte{5, 5}); !ok || !bytes.Equal(got, []byte{5}) {
			t.Errorf("%s: Through of 0, 1 and 5, 5 = %X, %v, not 5", name, got, ok)
		}
	}
}

func TestAtKnown(t *testing.T) {
	for name, f := range fields() {
		for _, c := range []struct {
			p       []byte
			x, want byte
		}{
			{nil, 0, 0},
			{nil, 1, 0},
			{[]byte{}, 0xFF, 0},
			{[]byte{0, 0, 0}, 3, 0},
			{[]byte{7}, 0, 7},
			{[]byte{7}, 1, 7},
			{[]byte{7, 0, 0}, 0x53, 7},
			{[]byte{7, 9}, 0, 7},
			{[]byte{7, 9}, 1, 0x0E},
			{[]byte{0, 1}, 0xAB, 0xAB},
			{[]byte{0, 0, 1}, 2, 4},
			{[]byte{0, 2}, 0x80, 0x1D},
			{[]byte{0, 2, 0}, 0x80, 0x1D},
			{[]byte{1, 1}, 1, 0},
			{[]byte{2, 3, 1}, 1, 0},
			{[]byte{2, 3, 1}, 2, 0},
			{[]byte{2, 3, 1}, 3, 2},
			{plain.Alone(1, 8), 2, 0x1D},
			{plain.Alone(1, 255), 0x9C, 1},
			{plain.Alone(1, 256), 0x9C, 0x9C},
		} {
			if got := value.At(f, c.p, c.x); got != c.want {
				t.Errorf("%s: At(%X, %02X) = %02X, not %02X", name, c.p, c.x, got, c.want)
			}
		}
	}
}

// TestAt: all polynomials at all bytes; noughts behind them count for nothing.
func TestAt(t *testing.T) {
	for _, p := range plain.Polys() {
		for _, x := range all() {
			want := plain.Value(p, x)
			for name, f := range fields() {
				if got := value.At(f, p, x); got != want {
					t.Errorf("%s: At(%X, %02X) = %02X, not %02X", name, p, x, got, want)
				}
			}
		}
		for name, f := range fields() {
			if got := value.At(f, plain.Behind(p, 5), 0x35); got != plain.Value(p, 0x35) {
				t.Errorf("%s: At(%X, 35) hangs on noughts behind it: %02X", name, p, got)
			}
		}
	}
}

// TestAtNoughtAndOne: at 0 it is the coefficient of x^0, at 1 the sum of all.
func TestAtNoughtAndOne(t *testing.T) {
	for name, f := range fields() {
		for _, p := range plain.Polys() {
			var sum byte
			for _, a := range p {
				sum ^= a
			}
			if got := value.At(f, p, 0); got != poly.Coef(p, 0) {
				t.Errorf("%s: At(%X, 0) = %02X", name, p, got)
			}
			if got := value.At(f, p, 1); got != sum {
				t.Errorf("%s: At(%X, 1) = %02X, not %02X", name, p, got, sum)
			}
		}
	}
}

// TestAtLong: degrees are not bounded, as a shifted polynomial's is.
func TestAtLong(t *testing.T) {
	p := append(plain.Mixed(4, 3000), 9)
	for name, f := range fields() {
		for _, x := range []byte{0, 1, 2, 0x80, 0xFF} {
			if got, want := value.At(f, p, x), plain.Value(p, x); got != want {
				t.Errorf("%s: what has the degree 3000 is %02X at %02X, not %02X", name, got, x, want)
			}
		}
	}
}

// TestAtSumsAndProducts: the value of a sum is the sum of the values, that of a product their product.
func TestAtSumsAndProducts(t *testing.T) {
	for name, f := range fields() {
		for seed := range 30 {
			p, q, x := plain.Mixed(seed, seed*5%90), plain.Mixed(seed+7, seed*7%80), byte(seed*41+1)
			atP, atQ := value.At(f, p, x), value.At(f, q, x)
			if value.At(f, poly.Add(p, q), x) != atP^atQ {
				t.Errorf("%s: %X and %X, added, are another one at %02X", name, p, q, x)
			}
			if value.At(f, poly.Mul(f, p, q), x) != f.Mul(atP, atQ) {
				t.Errorf("%s: %X and %X, multiplied, are another one at %02X", name, p, q, x)
			}
		}
	}
}

// TestAllKnown: noughts at the end are values, too.
func TestAllKnown(t *testing.T) {
	for name, f := range fields() {
		for _, c := range []struct{ p, xs, want []byte }{
			{nil, nil, nil},
			{[]byte{1, 2, 3}, nil, nil},
			{[]byte{1, 2, 3}, []byte{}, nil},
			{nil, []byte{4, 5, 6}, []byte{0, 0, 0}},
			{[]byte{0, 0}, []byte{0}, []byte{0}},
			{[]byte{7}, []byte{0, 1, 0xFF}, []byte{7, 7, 7}},
			{[]byte{0, 1}, []byte{3, 3, 0, 3}, []byte{3, 3, 0, 3}},
			{[]byte{2, 3, 1}, []byte{0, 1, 2}, []byte{2, 0, 0}},
			{[]byte{2, 3, 1}, []byte{2, 1, 0, 0}, []byte{0, 0, 2, 2}},
		} {
			if got := value.All(f, c.p, c.xs); !bytes.Equal(got, c.want) {
				t.Errorf("%s: All(%X, %X) = %X, not %X", name, c.p, c.xs, got, c.want)
			}
		}
	}
}

// TestAll: at many places, at none, and at the same ones twice.
func TestAll(t *testing.T) {
	for name, f := range fields() {
		for _, p := range [][]byte{nil, {0, 0}, {9}, {2, 3, 1, 0}, plain.Mixed(3, 64), plain.Behind(plain.Mixed(5, 90), 4)} {
			for _, xs := range append(places(), twice()...) {
				if got, want := value.All(f, p, xs), plain.Values(p, xs); !bytes.Equal(got, want) {
					t.Errorf("%s: All(%X, %X) = %X, not %X", name, p, xs, got, want)
				}
			}
		}
	}
}

// TestAllIsAt: of all polynomials, at all bytes.
func TestAllIsAt(t *testing.T) {
	for name, f := range fields() {
		for _, p := range plain.Polys() {
			if got, want := value.All(f, p, all()), plain.Values(p, all()); !bytes.Equal(got, want) {
				t.Errorf("%s: All(%X, all bytes) = %X, not %X", name, p, got, want)
			}
		}
	}
}

func TestDeriveKnown(t *testing.T) {
	for _, c := range []struct{ p, want []byte }{
		{nil, nil},
		{[]byte{}, nil},
		{[]byte{0}, nil},
		{[]byte{0, 0, 0}, nil},
		{[]byte{5}, nil},
		{[]byte{5, 0}, nil},
		{[]byte{5, 7}, []byte{7}},
		{[]byte{5, 7, 0, 0}, []byte{7}},
		{[]byte{0, 0, 9}, nil},
		{[]byte{5, 7, 9}, []byte{7}},
		{[]byte{5, 7, 9, 0xB}, []byte{7, 0, 0xB}},
		{[]byte{5, 0, 9, 0xB, 0}, []byte{0, 0, 0xB}},
		{[]byte{1, 2, 3, 4, 5}, []byte{2, 0, 4}},
		{[]byte{1, 2, 3, 4, 5, 6}, []byte{2, 0, 4, 0, 6}},
		{[]byte{1, 2, 3, 0, 5, 0, 7}, []byte{2}},
	} {
		if got := value.Derive(c.p); !bytes.Equal(got, c.want) {
			t.Errorf("Derive(%X) = %X, not %X", c.p, got, c.want)
		}
	}
}

// TestDerivePowers: that of a x^i is a x^(i-1), if i is odd, and 0, if it is even; degrees are not bounded.
func TestDerivePowers(t *testing.T) {
	for _, i := range []int{0, 1, 2, 3, 4, 63, 64, 65, 254, 255, 256, 257, 999, 1000, 1001, 1002, 5000, 5001} {
		for _, a := range []byte{1, 2, 0xFF} {
			var want []byte
			if i%2 == 1 {
				want = plain.Alone(a, i-1)
			}
			if got := value.Derive(plain.Behind(plain.Alone(a, i), i%3)); !bytes.Equal(got, want) {
				t.Errorf("Derive of %02X x^%d = %X", a, i, got)
			}
		}
	}
}

// TestDerive: of all polynomials, coefficient by coefficient, each added as often as the chapter says.
func TestDerive(t *testing.T) {
	for _, p := range plain.Polys() {
		if got, want := value.Derive(p), plain.Derived(p); !bytes.Equal(got, want) {
			t.Errorf("Derive(%X) = %X, not %X", p, got, want)
		}
		if got := value.Derive(value.Derive(p)); len(got) != 0 {
			t.Errorf("Derive of Derive(%X) = %X", p, got)
		}
	}
}

// TestDeriveSumsProductsSquares: that of a sum is a sum, that of a product follows its factors', that of a square is 0.
func TestDeriveSumsProductsSquares(t *testing.T) {
	for _, p := range plain.Polys() {
		if got := value.Derive(plain.Product(p, p)); len(got) != 0 {
			t.Errorf("Derive of the square of %X = %X", p, got)
		}
		for _, q := range plain.Polys() {
			if got := value.Derive(plain.Sum(p, q)); !bytes.Equal(got, plain.Sum(value.Derive(p), value.Derive(q))) {
				t.Errorf("Derive of the sum of %X and %X = %X", p, q, got)
			}
		}
	}
	for seed := range 60 {
		p, q := plain.Mixed(seed, seed*5%90), plain.Behind(plain.Mixed(seed+7, seed*7%80), seed%4)
		want := plain.Sum(plain.Product(value.Derive(p), q), plain.Product(p, value.Derive(q)))
		if got := value.Derive(plain.Product(p, q)); !bytes.Equal(got, want) {
			t.Errorf("Derive of the product of %X and %X = %X, not %X", p, q, got, want)
		}
	}
}

func TestZerosKnown(t *testing.T) {
	fieldsOwn := plain.Sum(plain.Alone(1, 256), []byte{0, 1})
	allBut0 := plain.Sum(plain.Alone(1, 255), []byte{1})
	for name, f := range fields() {
		for _, c := range []struct{ p, want []byte }{
			{nil, all()},
			{[]byte{}, all()},
			{[]byte{0}, all()},
			{make([]byte, 300), all()},
			{[]byte{1}, nil},
			{[]byte{0xFF, 0, 0}, nil},
			{[]byte{0, 1}, []byte{0}},
			{[]byte{0, 0, 0, 7}, []byte{0}},
			{[]byte{9, 1}, []byte{9}},
			{[]byte{2, 4, 0}, []byte{0x8E}},
			{[]byte{1, 0, 1}, []byte{1}},
			{[]byte{0x51, 0, 1, 0}, []byte{0x0D}},
			{[]byte{0x20, 1, 1}, nil},
			{[]byte{2, 3, 1}, []byte{1, 2}},
			{[]byte{0, 1, 1}, []byte{0, 1}},
			{fieldsOwn, all()},
			{plain.Scaled(0x77, fieldsOwn), all()},
			{allBut0, all()[1:]},
		} {
			if got := value.Zeros(f, c.p); !bytes.Equal(got, c.want) {
				t.Errorf("%s: Zeros(%X) = %X, not %X", name, c.p, got, c.want)
			}
		}
	}
}

// TestZeros: of all polynomials, rising, each once.
func TestZeros(t *testing.T) {
	for _, p := range plain.Polys() {
		want := zerosPlain(p)
		for name, f := range fields() {
			if got := value.Zeros(f, p); !bytes.Equal(got, want) {
				t.Errorf("%s: Zeros(%X) = %X, not %X", name, p, got, want)
			}
		}
	}
}

// TestZerosOfQuadratics: of x^2 + x + c half have two, and half have none; of x^2 + c each has one, twice.
func TestZerosOfQuadratics(t *testing.T) {
	for name, f := range fields() {
		with := 0
		for _, c := range all() {
			zeros := value.Zeros(f, []byte{c, 1, 1})
			if !bytes.Equal(zeros, zerosPlain([]byte{c, 1, 1})) {
				t.Errorf("%s: Zeros(%02X, 1, 1) = %X", name, c, zeros)
			}
			if len(zeros) > 0 {
				with++
			}
			if zeros := value.Zeros(f, []byte{c, 0, 1}); len(zeros) != 1 || plain.Mul(zeros[0], zeros[0]) != c {
				t.Errorf("%s: Zeros(%02X, 0, 1) = %X", name, c, zeros)
			}
		}
		if with != 128 {
			t.Errorf("%s: %d of 256 have zeros", name, with)
		}
	}
}

func TestFromKnown(t *testing.T) {
	for name, f := range fields() {
		for _, c := range []struct{ zeros, want []byte }{
			{nil, []byte{1}},
			{[]byte{}, []byte{1}},
			{[]byte{0}, []byte{0, 1}},
			{[]byte{1}, []byte{1, 1}},
			{[]byte{0xAB}, []byte{0xAB, 1}},
			{[]byte{0, 0, 0}, []byte{0, 0, 0, 1}},
			{[]byte{1, 1}, []byte{1, 0, 1}},
			{[]byte{2, 1}, []byte{2, 3, 1}},
			{[]byte{0x80, 2}, []byte{0x1D, 0x82, 1}},
			{[]byte{0, 5}, []byte{0, 5, 1}},
			{[]byte{5, 0}, []byte{0, 5, 1}},
			{[]byte{1, 1, 1, 1}, []byte{1, 0, 0, 0, 1}},
			{all(), plain.Sum(plain.Alone(1, 256), []byte{0, 1})},
			{all()[1:], plain.Sum(plain.Alone(1, 255), []byte{1})},
		} {
			if got := value.From(f, c.zeros); !bytes.Equal(got, c.want) {
				t.Errorf("%s: From(%X) = %X, not %X", name, c.zeros, got, c.want)
			}
		}
	}
}

// TestFrom: of unlike ones, of the same ones, in whatever order; what was handed in are its zeros, and no others.
func TestFrom(t *testing.T) {
	for name, f := range fields() {
		for _, zeros := range append(places(), twice()...) {
			want := plain.FromZeros(zeros...)
			got := value.From(f, zeros)
			if !bytes.Equal(got, want) || len(got) != len(zeros)+1 {
				t.Errorf("%s: From(%X) = %X, not %X", name, zeros, got, want)
			}
			turned := slices.Clone(zeros)
			slices.Reverse(turned)
			sorted := slices.Sorted(slices.Values(zeros))
			if !bytes.Equal(value.From(f, turned), want) || !bytes.Equal(value.From(f, sorted), want) {
				t.Errorf("%s: From(%X) hangs on the order", name, zeros)
			}
			if back := value.Zeros(f, got); !bytes.Equal(back, slices.Compact(sorted)) {
				t.Errorf("%s: Zeros of From(%X) = %X", name, zeros, back)
			}
		}
	}
}

// TestFromLong: more zeros than there are bytes, and a degree above poly.Shift's 1000.
func TestFromLong(t *testing.T) {
	zeros := plain.Mixed(2, 1100)
	want := plain.FromZeros(zeros...)
	for name, f := range fields() {
		if got := value.From(f, zeros); !bytes.Equal(got, want) || len(got) != 1101 {
			t.Errorf("%s: From of 1100 zeros is another one", name)
		}
	}
}

// TestWhatHasZerosIsAProduct: it is From of its zeros, times what has the other factors; where the value is not 0 it is no such product.
func TestWhatHasZerosIsAProduct(t *testing.T) {
	for name, f := range fields() {
		for seed, rest := range plain.Polys() {
			p := plain.Product(rest, plain.FromZeros(plain.Mixed(seed, seed%7)...))
			zeros := value.Zeros(f, p)
			if _, ok := quot.Exact(f, p, value.From(f, zeros)); !ok && len(p) > 0 {
				t.Errorf("%s: %X has the zeros %X, and is no product of them", name, p, zeros)
			}
			for _, z := range []byte{0, 1, 2, 0x1D, 0xFF} {
				if _, ok := quot.Exact(f, p, value.From(f, []byte{z})); ok != (value.At(f, p, z) == 0) || ok != slices.Contains(zeros, z) {
					t.Errorf("%s: of %X, %02X is a zero or not, and its factor otherwise", name, p, z)
				}
			}
		}
	}
}

func TestThroughKnown(t *testing.T) {
	for name, f := range fields() {
		for _, c := range []struct{ xs, ys, want []byte }{
			{nil, nil, nil},
			{[]byte{}, nil, nil},
			{[]byte{0}, []byte{0}, nil},
			{[]byte{9}, []byte{0}, nil},
			{[]byte{0}, []byte{7}, []byte{7}},
			{[]byte{9}, []byte{7}, []byte{7}},
			{[]byte{0, 1}, []byte{0, 0}, nil},
			{[]byte{0, 1}, []byte{0, 1}, []byte{0, 1}},
			{[]byte{1, 0}, []byte{0, 1}, []byte{1, 1}},
			{[]byte{0, 1}, []byte{3, 5}, []byte{3, 6}},
			{[]byte{0, 2}, []byte{0, 1}, []byte{0, 0x8E}},
			{[]byte{0, 1, 2}, []byte{2, 0, 0}, []byte{2, 3, 1}},
			{[]byte{2, 0, 1}, []byte{0, 2, 0}, []byte{2, 3, 1}},
			{[]byte{5, 6, 7, 8}, []byte{5, 6, 7, 8}, []byte{0, 1}},
			{[]byte{5, 6, 7, 8}, []byte{9, 9, 9, 9}, []byte{9}},
		} {
			if got, ok := value.Through(f, c.xs, c.ys); !ok || !bytes.Equal(got, c.want) {
				t.Errorf("%s: Through(%X, %X) = %X, %v, not %X", name, c.xs, c.ys, got, ok, c.want)
			}
		}
	}
}

// TestThrough: any values at unlike places; it is NORMAL, short enough, and has these values, and so is the one.
func TestThrough(t *testing.T) {
	for name, f := range fields() {
		for seed, xs := range places() {
			for _, ys := range [][]byte{make([]byte, len(xs)), plain.Mixed(seed, len(xs)), xs, slices.Repeat([]byte{0xE1}, len(xs))} {
				got, ok := value.Through(f, xs, ys)
				if !ok || !plain.Normal(got) || len(got) > len(xs) || !bytes.Equal(plain.Values(got, xs), ys) {
					t.Errorf("%s: Through(%X, %X) = %X, %v", name, xs, ys, got, ok)
				}
			}
		}
	}
}

// TestThroughComesBack: what has a small enough degree is told again by its values, in whatever order.
func TestThroughComesBack(t *testing.T) {
	for name, f := range fields() {
		for seed, xs := range places() {
			for _, long := range []int{0, 1, 2, len(xs) / 2, len(xs) - 1, len(xs)} {
				p := plain.Strip(plain.Mixed(seed+1, min(max(long, 0), len(xs))))
				if got, ok := value.Through(f, xs, value.All(f, p, xs)); !ok || !bytes.Equal(got, p) {
					t.Errorf("%s: %X, asked at %X, is told again as %X, %v", name, p, xs, got, ok)
				}
				turned := slices.Clone(xs)
				slices.Reverse(turned)
				if got, ok := value.Through(f, turned, value.All(f, p, turned)); !ok || !bytes.Equal(got, p) {
					t.Errorf("%s: %X, asked at %X, is told again as %X, %v", name, p, turned, got, ok)
				}
			}
		}
	}
}

// TestThroughOneMore: at as many places as its degree, what is told is what is left by their product.
func TestThroughOneMore(t *testing.T) {
	for name, f := range fields() {
		for seed, xs := range places() {
			p := append(plain.Mixed(seed, len(xs)), 3)
			want, _ := quot.Mod(f, p, plain.FromZeros(xs...))
			if got, ok := value.Through(f, xs, value.All(f, p, xs)); !ok || !bytes.Equal(got, want) {
				t.Errorf("%s: Through %X of %X = %X, %v, not %X", name, xs, p, got, ok, want)
			}
		}
	}
}

// TestThroughTwice: a place that stands twice is told by false, whether its values are the same or not.
func TestThroughTwice(t *testing.T) {
	for name, f := range fields() {
		for seed, xs := range twice() {
			for _, ys := range [][]byte{make([]byte, len(xs)), plain.Mixed(seed, len(xs)), xs, slices.Repeat([]byte{5}, len(xs))} {
				if got, ok := value.Through(f, xs, ys); ok || len(got) != 0 {
					t.Errorf("%s: Through(%X, %X) = %X, %v", name, xs, ys, got, ok)
				}
			}
		}
	}
}

// TestThroughUnlikeLengths: ys that are more or fewer than xs, also if one is none, or a place stands twice.
func TestThroughUnlikeLengths(t *testing.T) {
	for name, f := range fields() {
		for _, xs := range append(places(), twice()...) {
			for _, long := range []int{0, 1, len(xs) - 1, len(xs) + 1, len(xs) + 70, 2*len(xs) + 1} {
				if long < 0 || long == len(xs) {
					continue
				}
				for _, ys := range [][]byte{make([]byte, long), plain.Mixed(4, long)} {
					if got, ok := value.Through(f, xs, ys); ok || len(got) != 0 {
						t.Errorf("%s: Through(%X, %X) = %X, %v", name, xs, ys, got, ok)
					}
				}
			}
		}
	}
}

// told is all lists that are told of a polynomial and of places.
func told(f *field.Field, p, xs []byte) map[string][]byte {
	l := map[string][]byte{
		"All":              value.All(f, p, xs),
		"All, turned":      value.All(f, xs, p),
		"All at none":      value.All(f, p, nil),
		"Derive":           value.Derive(p),
		"Zeros":            value.Zeros(f, p),
		"Zeros of places":  value.Zeros(f, xs),
		"From":             value.From(f, xs),
		"From, of p":       value.From(f, p),
		"From of none":     value.From(f, nil),
		"At, of one place": {value.At(f, p, 0x35), value.At(f, xs, 0x35)},
	}
	l["Through"], _ = value.Through(f, xs, p[:min(len(p), len(xs))])
	l["Through, one"], _ = value.Through(f, []byte{3}, xs[:min(1, len(xs))])
	l["Through, itself"], _ = value.Through(f, xs, xs)
	l["Through, of p"], _ = value.Through(f, p, xs)
	return l
}

// beside are as many unlike places as a polynomial has coefficients, or as there are.
func beside(p []byte) []byte {
	mixed := places()[len(places())-1]
	return mixed[:min(len(p), len(mixed))]
}

// TestToldIsNormal: all that is a polynomial is; values and zeros are lists of another kind.
func TestToldIsNormal(t *testing.T) {
	for name, f := range fields() {
		for _, p := range plain.Polys() {
			lists := told(f, p, beside(p))
			for _, call := range []string{"Derive", "From", "From, of p", "From of none", "Through", "Through, one", "Through, itself", "Through, of p"} {
				if l := lists[call]; !plain.Normal(l) {
					t.Errorf("%s: %s of %X is not normal: %X", name, call, p, l)
				}
			}
		}
	}
}

// TestHandedInStays: lists are as they were, and so is what lies behind their length; none of it is read or told.
func TestHandedInStays(t *testing.T) {
	for name, f := range fields() {
		for _, p := range plain.Polys() {
			wholeP, innerP := plain.Framed(p)
			wholeX, innerX := plain.Framed(beside(p))
			wasP, wasX := slices.Clone(wholeP), slices.Clone(wholeX)
			if call, same := plain.Alike(told(f, p, beside(p)), told(f, innerP, innerX)); !same {
				t.Errorf("%s: %s reads behind %X", name, call, p)
			}
			if !bytes.Equal(wholeP, wasP) || !bytes.Equal(wholeX, wasX) {
				t.Errorf("%s: %X was changed", name, p)
			}
		}
	}
}

// TestToldIsNew: what is told stays, whatever becomes of what was handed in or of what was told beside it.
func TestToldIsNew(t *testing.T) {
	for name, f := range fields() {
		for _, p := range plain.Polys() {
			wholeP, innerP := plain.Framed(p)
			wholeX, innerX := plain.Framed(beside(p))
			first := told(f, innerP, innerX)
			want := plain.Copied(first)
			for _, l := range told(f, innerP, innerX) {
				clear(l[:cap(l)])
			}
			clear(wholeP)
			clear(wholeX)
			if call, same := plain.Alike(want, first); !same {
				t.Errorf("%s: %s of %X shares memory with what was handed in or told before", name, call, p)
			}
			for call, l := range first {
				clear(l[:cap(l)])
				want[call] = make([]byte, len(l))
				if other, same := plain.Alike(want, first); !same {
					t.Errorf("%s: %s and %s of %X share memory", name, call, other, p)
				}
			}
		}
	}
}

// TestToldIsFarFromBehind: what is told may be written to its capacity's end, and what was handed in stays.
func TestToldIsFarFromBehind(t *testing.T) {
	for name, f := range fields() {
		for _, p := range plain.Polys() {
			wholeP, innerP := plain.Framed(p)
			wholeX, innerX := plain.Framed(beside(p))
			wasP, wasX := slices.Clone(wholeP), slices.Clone(wholeX)
			for call, l := range told(f, innerP, innerX) {
				plain.Spoil(l)
				if !bytes.Equal(wholeP, wasP) || !bytes.Equal(wholeX, wasX) {
					t.Fatalf("%s: %s of %X hands out what was handed in", name, call, p)
				}
			}
		}
	}
}

// TestOneListTwice: a list that is handed in twice is taken as two equal ones are, and stays.
func TestOneListTwice(t *testing.T) {
	for name, f := range fields() {
		for _, p := range append(plain.Polys(), places()...) {
			was := slices.Clone(p)
			if call, same := plain.Alike(told(f, slices.Clone(p), slices.Clone(p)), told(f, p, p)); !same || !bytes.Equal(p, was) {
				t.Errorf("%s: %s of %X, handed in twice, is another one", name, call, was)
			}
		}
	}
}

// TestNilField: nothing, 0, false, also where a field would be told 1, all bytes, or nothing and true.
func TestNilField(t *testing.T) {
	for _, p := range append(plain.Polys(), places()...) {
		for _, x := range []byte{0, 1, 2, 0xFF} {
			if got := value.At(nil, p, x); got != 0 {
				t.Errorf("At by nil of %X and %02X = %02X", p, x, got)
			}
		}
		if len(value.Zeros(nil, p)) != 0 || len(value.From(nil, p)) != 0 {
			t.Errorf("Zeros or From by nil of %X tells something", p)
		}
		for _, xs := range append(places(), twice()...) {
			if len(value.All(nil, p, xs)) != 0 {
				t.Errorf("All by nil of %X and %X tells something", p, xs)
			}
			if got, ok := value.Through(nil, xs, p); ok || len(got) != 0 {
				t.Errorf("Through by nil of %X and %X = %X, %v", xs, p, got, ok)
			}
			if got, ok := value.Through(nil, xs, plain.Mixed(3, len(xs))); ok || len(got) != 0 {
				t.Errorf("Through by nil of %X = %X, %v", xs, got, ok)
			}
		}
	}
}

// TestSeveralAtATime: many ask by one field; run with -race it tells more.
func TestSeveralAtATime(t *testing.T) {
	p, xs := plain.Mixed(1, 200), places()[len(places())-1][:150]
	for name, f := range fields() {
		want := told(field.Of(api.Shift), p, xs)
		var all sync.WaitGroup
		wrong := make([]bool, 8)
		for who := range wrong {
			all.Go(func() {
				_, same := plain.Alike(want, told(f, p, xs))
				wrong[who] = !same
			})
		}
		all.Wait()
		if slices.Contains(wrong, true) {
			t.Errorf("%s: several at a time were told otherwise", name)
		}
	}
}
