package poly_test

import (
	"bytes"
	"math"
	"slices"
	"sync"
	"testing"

	"erratum/api"
	"erratum/field"
	"erratum/plain"
	"erratum/poly"
)

// fields are one of each backend.
func fields() map[string]*field.Field {
	return map[string]*field.Field{
		"Table": field.Of(api.Table),
		"Shift": field.Of(api.Shift),
		"Lanes": field.Of(api.Lanes),
	}
}

func TestExample(t *testing.T) {
	for name, f := range fields() {
		if got := poly.Mul(f, []byte{1, 1}, []byte{1, 1}); !bytes.Equal(got, []byte{1, 0, 1}) {
			t.Errorf("%s: Mul of 1, 1 and 1, 1 = %X, not 1, 0, 1", name, got)
		}
	}
}

func TestNormKnown(t *testing.T) {
	for _, c := range []struct{ p, want []byte }{
		{nil, nil},
		{[]byte{}, nil},
		{[]byte{0}, nil},
		{[]byte{0, 0, 0}, nil},
		{[]byte{1}, []byte{1}},
		{[]byte{1, 0}, []byte{1}},
		{[]byte{0, 1}, []byte{0, 1}},
		{[]byte{0, 5, 0}, []byte{0, 5}},
		{[]byte{1, 0, 0, 2, 0, 0}, []byte{1, 0, 0, 2}},
		{[]byte{0, 0, 0xFF}, []byte{0, 0, 0xFF}},
	} {
		if got := poly.Norm(c.p); !bytes.Equal(got, c.want) {
			t.Errorf("Norm(%X) = %X, not %X", c.p, got, c.want)
		}
	}
}

func TestNorm(t *testing.T) {
	for _, p := range plain.Polys() {
		got := poly.Norm(p)
		if !bytes.Equal(got, plain.Strip(p)) {
			t.Errorf("Norm(%X) = %X", p, got)
		}
		if again := poly.Norm(got); !bytes.Equal(again, got) {
			t.Errorf("Norm of the normal list %X = %X", got, again)
		}
	}
}

func TestDegKnown(t *testing.T) {
	for _, c := range []struct {
		p    []byte
		want int
	}{
		{nil, -1},
		{[]byte{}, -1},
		{[]byte{0}, -1},
		{make([]byte, 500), -1},
		{[]byte{1}, 0},
		{[]byte{1, 0, 0}, 0},
		{[]byte{0, 5, 0}, 1},
		{[]byte{0, 0, 1}, 2},
		{plain.Alone(1, 1000), 1000},
		{plain.Behind(plain.Alone(0x80, 4000), 3), 4000},
	} {
		if got := poly.Deg(c.p); got != c.want {
			t.Errorf("Deg(%X) = %d, not %d", c.p, got, c.want)
		}
	}
}

func TestDeg(t *testing.T) {
	for _, p := range plain.Polys() {
		if got := poly.Deg(p); got != len(plain.Strip(p))-1 {
			t.Errorf("Deg(%X) = %d", p, got)
		}
	}
}

func TestCoef(t *testing.T) {
	for _, p := range plain.Polys() {
		for i, want := range p {
			if got := poly.Coef(p, i); got != want {
				t.Errorf("Coef(%X, %d) = %02X, not %02X", p, i, got, want)
			}
		}
		for _, i := range plain.Around(len(p)) {
			if got := poly.Coef(p, i); got != 0 && (i < 0 || i >= len(p)) {
				t.Errorf("Coef(%X, %d) = %02X, not 0", p, i, got)
			}
		}
	}
}

func TestSameKnown(t *testing.T) {
	for _, c := range []struct {
		p, q []byte
		want bool
	}{
		{nil, nil, true},
		{nil, []byte{}, true},
		{nil, []byte{0, 0}, true},
		{[]byte{0}, []byte{0, 0, 0}, true},
		{[]byte{1}, []byte{1, 0, 0}, true},
		{[]byte{0, 2, 0}, []byte{0, 2}, true},
		{nil, []byte{1}, false},
		{[]byte{0, 0}, []byte{0, 0, 1}, false},
		{[]byte{1}, []byte{0, 1}, false},
		{[]byte{1, 2}, []byte{1, 3}, false},
		{[]byte{1, 2}, []byte{3, 2}, false},
		{[]byte{1, 2, 0}, []byte{1, 2, 1}, false},
	} {
		if poly.Same(c.p, c.q) != c.want || poly.Same(c.q, c.p) != c.want {
			t.Errorf("Same(%X, %X) is not %v", c.p, c.q, c.want)
		}
	}
}

func TestSame(t *testing.T) {
	for _, p := range plain.Polys() {
		if !poly.Same(p, p) || !poly.Same(p, plain.Behind(p, 7)) || !poly.Same(plain.Behind(p, 7), p) {
			t.Errorf("%X is not the same with noughts behind it", p)
		}
		for _, q := range plain.Polys() {
			if got, want := poly.Same(p, q), bytes.Equal(plain.Strip(p), plain.Strip(q)); got != want {
				t.Errorf("Same(%X, %X) = %v", p, q, got)
			}
		}
		for i := range p {
			q := slices.Clone(p)
			q[i] ^= 0x10
			if poly.Same(p, q) || poly.Same(q, p) {
				t.Errorf("%X is the same with another coefficient %d", p, i)
			}
		}
	}
}

func TestAddKnown(t *testing.T) {
	for _, c := range []struct{ p, q, want []byte }{
		{nil, nil, nil},
		{nil, []byte{0, 0}, nil},
		{nil, []byte{1, 2, 0}, []byte{1, 2}},
		{[]byte{1, 2, 3}, []byte{4}, []byte{5, 2, 3}},
		{[]byte{1, 2, 3}, []byte{1, 2, 3}, nil},
		{[]byte{1, 2, 3}, []byte{7, 2, 3}, []byte{6}},
		{[]byte{1, 2, 3}, []byte{1, 1, 3, 0, 0}, []byte{0, 3}},
	} {
		if got := poly.Add(c.p, c.q); !bytes.Equal(got, c.want) {
			t.Errorf("Add(%X, %X) = %X, not %X", c.p, c.q, got, c.want)
		}
		if got := poly.Add(c.q, c.p); !bytes.Equal(got, c.want) {
			t.Errorf("Add(%X, %X) = %X, not %X", c.q, c.p, got, c.want)
		}
	}
}

// TestAdd: all lists with one another, unlike in length, and each with itself.
func TestAdd(t *testing.T) {
	for _, p := range plain.Polys() {
		if got := poly.Add(p, p); len(got) != 0 {
			t.Errorf("Add(%X, itself) = %X", p, got)
		}
		for _, q := range plain.Polys() {
			if got, want := poly.Add(p, q), plain.Sum(p, q); !bytes.Equal(got, want) {
				t.Errorf("Add(%X, %X) = %X, not %X", p, q, got, want)
			}
		}
	}
}

func TestScale(t *testing.T) {
	for name, f := range fields() {
		for _, p := range plain.Polys() {
			if got := poly.Scale(f, 0, p); len(got) != 0 {
				t.Errorf("%s: Scale(0, %X) = %X", name, p, got)
			}
			if got := poly.Scale(f, 1, p); !bytes.Equal(got, plain.Strip(p)) {
				t.Errorf("%s: Scale(1, %X) = %X", name, p, got)
			}
			for _, a := range []byte{2, 3, 0x1D, 0x80, 0x8E, 0xFF} {
				if got, want := poly.Scale(f, a, p), plain.Scaled(a, p); !bytes.Equal(got, want) {
					t.Errorf("%s: Scale(%02X, %X) = %X, not %X", name, a, p, got, want)
				}
			}
		}
	}
}

func TestMulKnown(t *testing.T) {
	for name, f := range fields() {
		for _, c := range []struct{ p, q, want []byte }{
			{nil, nil, nil},
			{nil, []byte{1, 2}, nil},
			{[]byte{0, 0}, []byte{1, 2}, nil},
			{[]byte{0}, []byte{0, 0, 0}, nil},
			{[]byte{0x80}, []byte{2}, []byte{0x1D}},
			{[]byte{0x80, 0}, []byte{2, 0, 0}, []byte{0x1D}},
			{[]byte{1}, []byte{4, 5, 6, 0}, []byte{4, 5, 6}},
			{[]byte{0, 1}, []byte{4, 5, 6}, []byte{0, 4, 5, 6}},
			{[]byte{1, 1}, []byte{2, 1}, []byte{2, 3, 1}},
		} {
			if got := poly.Mul(f, c.p, c.q); !bytes.Equal(got, c.want) {
				t.Errorf("%s: Mul(%X, %X) = %X, not %X", name, c.p, c.q, got, c.want)
			}
			if got := poly.Mul(f, c.q, c.p); !bytes.Equal(got, c.want) {
				t.Errorf("%s: Mul(%X, %X) = %X, not %X", name, c.q, c.p, got, c.want)
			}
		}
	}
}

func TestMulWithoutX(t *testing.T) {
	for name, f := range fields() {
		plain.AllPairs(func(a, b byte) {
			if got := poly.Mul(f, []byte{a}, []byte{b}); !bytes.Equal(got, plain.Strip([]byte{plain.Mul(a, b)})) {
				t.Fatalf("%s: Mul(%02X, %02X) = %X", name, a, b, got)
			}
		})
	}
}

// TestMul: all lists with one another, so in both orders, and each with itself.
func TestMul(t *testing.T) {
	for _, p := range plain.Polys() {
		for _, q := range plain.Polys() {
			want := plain.Product(p, q)
			for name, f := range fields() {
				if got := poly.Mul(f, p, q); !bytes.Equal(got, want) {
					t.Errorf("%s: Mul(%X, %X) = %X, not %X", name, p, q, got, want)
				}
			}
		}
	}
}

// TestMulLong: a product's degree is not bounded, as a shifted polynomial's is.
func TestMulLong(t *testing.T) {
	p, q := append(plain.Mixed(3, 2000), 1), append(plain.Mixed(8, 1500), 0xFF)
	want := plain.Product(p, q)
	for name, f := range fields() {
		if !bytes.Equal(poly.Mul(f, p, q), want) || !bytes.Equal(poly.Mul(f, q, p), want) || len(want) != 3501 {
			t.Errorf("%s: a long product is another one", name)
		}
	}
}

// TestMulByPowers: x^i is handed on either side; two powers of x are one.
func TestMulByPowers(t *testing.T) {
	for name, f := range fields() {
		for _, p := range plain.Polys() {
			for _, i := range []int{0, 1, 2, 63, 64, 65, 200} {
				want := plain.Strip(slices.Concat(make([]byte, i), p))
				if !bytes.Equal(poly.Mul(f, p, plain.Alone(1, i)), want) || !bytes.Equal(poly.Mul(f, plain.Alone(1, i), p), want) {
					t.Errorf("%s: %X times x^%d is another one", name, p, i)
				}
			}
		}
	}
}

// TestRing: what holds of sums and products of any three.
func TestRing(t *testing.T) {
	for name, f := range fields() {
		for seed := range 40 {
			p, q, r := plain.Mixed(seed, seed*5%90), plain.Mixed(seed+7, seed*7%130), plain.Behind(plain.Mixed(seed+19, seed*3%70), seed%4)
			pq, qr := poly.Mul(f, p, q), poly.Mul(f, q, r)
			if !poly.Same(poly.Add(p, q), poly.Add(q, p)) || !poly.Same(pq, poly.Mul(f, q, p)) {
				t.Errorf("%s: the order of %X and %X counts", name, p, q)
			}
			if !poly.Same(poly.Add(poly.Add(p, q), r), poly.Add(p, poly.Add(q, r))) {
				t.Errorf("%s: which of %X, %X, %X are added first counts", name, p, q, r)
			}
			if !poly.Same(poly.Mul(f, pq, r), poly.Mul(f, p, qr)) {
				t.Errorf("%s: which of %X, %X, %X are multiplied first counts", name, p, q, r)
			}
			if !poly.Same(poly.Mul(f, p, poly.Add(q, r)), poly.Add(pq, poly.Mul(f, p, r))) ||
				!poly.Same(poly.Mul(f, poly.Add(p, q), r), poly.Add(poly.Mul(f, p, r), qr)) {
				t.Errorf("%s: products of sums of %X, %X, %X are no sums of products", name, p, q, r)
			}
			if !poly.Same(poly.Add(p, nil), p) || !poly.Same(poly.Add(p, p), nil) || !poly.Same(poly.Mul(f, p, []byte{1}), p) {
				t.Errorf("%s: 0 or 1 changes %X", name, p)
			}
			if a := byte(seed); !poly.Same(poly.Scale(f, a, p), poly.Mul(f, []byte{a}, p)) {
				t.Errorf("%s: Scale and Mul of %02X and %X are not the same", name, a, p)
			}
		}
	}
}

func TestShiftKnown(t *testing.T) {
	for _, c := range []struct {
		p    []byte
		n    int
		want []byte
	}{
		{nil, 0, nil},
		{nil, 3, nil},
		{nil, -3, nil},
		{[]byte{0, 0}, 5, nil},
		{[]byte{0, 0, 0}, -1, nil},
		{[]byte{1, 2, 0}, 0, []byte{1, 2}},
		{[]byte{1, 2, 0}, 2, []byte{0, 0, 1, 2}},
		{[]byte{1, 2, 3, 0}, -1, []byte{2, 3}},
		{[]byte{1, 2, 3, 0}, -2, []byte{3}},
		{[]byte{1, 2, 3, 0}, -3, nil},
		{[]byte{1, 2, 3, 0}, -4, nil},
		{[]byte{1, 2, 3, 0}, -5, nil},
		{[]byte{0, 0, 9}, -1, []byte{0, 9}},
	} {
		if got := poly.Shift(c.p, c.n); !bytes.Equal(got, c.want) {
			t.Errorf("Shift(%X, %d) = %X, not %X", c.p, c.n, got, c.want)
		}
	}
}

// TestShift: up and down by numbers at the edges of each list, of 1000, and of an int.
func TestShift(t *testing.T) {
	for _, p := range plain.Polys() {
		for _, n := range append(plain.Around(len(p)), 999-len(p), 1000-len(p), 1001-len(p), 1002-len(p)) {
			var want []byte
			switch {
			case n >= 0 && n <= 1000:
				want = plain.Strip(slices.Concat(make([]byte, n), p))
			case n < 0 && n >= -len(p):
				want = plain.Strip(p[-n:])
			}
			if len(want) > 1001 {
				want = nil
			}
			if got := poly.Shift(p, n); !bytes.Equal(got, want) {
				t.Errorf("Shift(%X, %d) = %X, not %X", p, n, got, want)
			}
		}
	}
}

// TestShiftAtTheTop: what is told has a degree of 1000 at most, whichever way it came there.
func TestShiftAtTheTop(t *testing.T) {
	for _, d := range []int{0, 1, 2, 499, 999, 1000, 1001, 1002, 2000, 5000} {
		p := plain.Behind(plain.Alone(7, d), d%3)
		if got := poly.Shift(p, 1000-d); !bytes.Equal(got, plain.Alone(7, 1000)) {
			t.Errorf("x^%d by %d has not the degree 1000", d, 1000-d)
		}
		if got := poly.Shift(p, 999-d); !bytes.Equal(got, plain.Alone(7, 999)) {
			t.Errorf("x^%d by %d has not the degree 999", d, 999-d)
		}
		for _, more := range []int{1, 2, 500, 1 << 31, 1 << 32, math.MaxInt - 6000} {
			if got := poly.Shift(p, 1000-d+more); len(got) != 0 {
				t.Errorf("x^%d by %d is told, with %d bytes", d, 1000-d+more, len(got))
			}
		}
		for _, n := range []int{math.MaxInt, math.MaxInt - 1, math.MinInt, math.MinInt + 1} {
			if got := poly.Shift(p, n); len(got) != 0 {
				t.Errorf("x^%d by %d is told, with %d bytes", d, n, len(got))
			}
		}
	}
}

// TestShiftIsAProduct: up is Mul by a power of x, and down leaves what Cut tells.
func TestShiftIsAProduct(t *testing.T) {
	f := field.Of(api.Table)
	for _, p := range plain.Polys() {
		for _, n := range []int{0, 1, 2, 64, 100, 299, 300, 400} {
			if !poly.Same(poly.Shift(p, n), poly.Mul(f, p, plain.Alone(1, n))) {
				t.Errorf("Shift(%X, %d) is no product", p, n)
			}
			if !poly.Same(poly.Add(poly.Shift(poly.Shift(p, -n), n), poly.Cut(p, n)), p) {
				t.Errorf("Shift(%X, %d) is no quotient", p, -n)
			}
		}
	}
}

func TestCutKnown(t *testing.T) {
	for _, c := range []struct {
		p    []byte
		n    int
		want []byte
	}{
		{nil, 2, nil},
		{[]byte{0, 0, 0}, 2, nil},
		{[]byte{1, 2, 3}, -1, nil},
		{[]byte{1, 2, 3}, 0, nil},
		{[]byte{1, 2, 3}, 1, []byte{1}},
		{[]byte{1, 2, 3}, 2, []byte{1, 2}},
		{[]byte{1, 2, 3}, 3, []byte{1, 2, 3}},
		{[]byte{1, 2, 3}, 4, []byte{1, 2, 3}},
		{[]byte{1, 0, 0, 3}, 3, []byte{1}},
		{[]byte{0, 0, 0, 3}, 3, nil},
		{[]byte{1, 2, 0, 0}, 100, []byte{1, 2}},
	} {
		if got := poly.Cut(c.p, c.n); !bytes.Equal(got, c.want) {
			t.Errorf("Cut(%X, %d) = %X, not %X", c.p, c.n, got, c.want)
		}
	}
}

// TestCut: long lists are cut, too, beyond the degree that Shift bounds.
func TestCut(t *testing.T) {
	for _, p := range append(plain.Polys(), append(plain.Mixed(1, 3000), 1)) {
		for _, n := range append(plain.Around(len(p)), 1001, 1002, 2000) {
			want := p
			if n < len(p) {
				want = p[:max(n, 0)]
			}
			if got := poly.Cut(p, n); !bytes.Equal(got, plain.Strip(want)) {
				t.Errorf("Cut(%X, %d) = %X", p, n, got)
			}
		}
	}
}

// told is all that is told of two polynomials: every call that tells one, with numbers that leave much of them.
func told(f *field.Field, p, q []byte) map[string][]byte {
	return map[string][]byte{
		"Norm":           poly.Norm(p),
		"Add":            poly.Add(p, q),
		"Add of none":    poly.Add(p, nil),
		"Add to none":    poly.Add(nil, p),
		"Add of itself":  poly.Add(p, p),
		"Scale by 0":     poly.Scale(f, 0, p),
		"Scale by 1":     poly.Scale(f, 1, p),
		"Scale":          poly.Scale(f, 0x8E, p),
		"Mul":            poly.Mul(f, p, q),
		"Mul by 1":       poly.Mul(f, p, []byte{1}),
		"Mul of 1":       poly.Mul(f, []byte{1}, p),
		"Shift by 0":     poly.Shift(p, 0),
		"Shift up":       poly.Shift(p, 3),
		"Shift down":     poly.Shift(p, -2),
		"Shift to none":  poly.Shift(p, -len(p)),
		"Cut":            poly.Cut(p, len(p)/2),
		"Cut of nothing": poly.Cut(p, len(p)),
		"Cut beyond":     poly.Cut(p, len(p)+50),
		"Cut to none":    poly.Cut(p, 0),
	}
}

func TestToldIsNormal(t *testing.T) {
	for name, f := range fields() {
		for _, p := range plain.Polys() {
			for _, q := range plain.Polys() {
				for call, l := range told(f, p, q) {
					if len(l) > 0 && l[len(l)-1] == 0 {
						t.Fatalf("%s: %s of %X and %X is not normal: %X", name, call, p, q, l)
					}
				}
			}
		}
	}
}

// TestHandedInStays: lists are as they were, and so is what lies behind their length; none of it is read or told.
func TestHandedInStays(t *testing.T) {
	for name, f := range fields() {
		for _, p := range plain.Polys() {
			q := plain.Mixed(len(p)+2, 40)
			wholeP, innerP := plain.Framed(p)
			wholeQ, innerQ := plain.Framed(q)
			wasP, wasQ := slices.Clone(wholeP), slices.Clone(wholeQ)
			if call, same := plain.Alike(told(f, p, q), told(f, innerP, innerQ)); !same {
				t.Errorf("%s: %s reads behind %X", name, call, p)
			}
			if poly.Deg(innerP) != poly.Deg(p) || poly.Coef(innerP, len(p)) != 0 || poly.Coef(innerP, -1) != 0 || !poly.Same(innerP, p) {
				t.Errorf("%s: Deg, Coef or Same reads behind %X", name, p)
			}
			if !bytes.Equal(wholeP, wasP) || !bytes.Equal(wholeQ, wasQ) {
				t.Errorf("%s: %X was changed", name, p)
			}
		}
	}
}

// TestToldIsNew: what is told stays, whatever becomes of what was handed in or of what was told beside it.
func TestToldIsNew(t *testing.T) {
	for name, f := range fields() {
		for _, p := range plain.Polys() {
			q := plain.Mixed(len(p)+2, 40)
			wholeP, innerP := plain.Framed(p)
			wholeQ, innerQ := plain.Framed(q)
			first := told(f, innerP, innerQ)
			want := plain.Copied(first)
			for _, l := range told(f, innerP, innerQ) {
				clear(l[:cap(l)])
			}
			clear(wholeP)
			clear(wholeQ)
			if call, same := plain.Alike(want, first); !same {
				t.Errorf("%s: %s of %X shares memory with what was handed in or told before", name, call, p)
			}
			for call, l := range first {
				clear(l[:cap(l)])
				want[call] = make([]byte, len(l))
				if other, same := plain.Alike(want, first); !same {
					t.Errorf("%s: %s and %s of %X share memory", name, call, other, p)
				}
			}
		}
	}
}

// TestToldIsFarFromBehind: what is told may be written to its capacity's end, and what was handed in stays.
func TestToldIsFarFromBehind(t *testing.T) {
	for name, f := range fields() {
		for _, p := range plain.Polys() {
			wholeP, innerP := plain.Framed(p)
			was := slices.Clone(wholeP)
			for call, l := range told(f, innerP, innerP) {
				clear(l[:cap(l)])
				if !bytes.Equal(wholeP, was) {
					t.Fatalf("%s: %s of %X hands out what was handed in", name, call, p)
				}
			}
		}
	}
}

func TestNilField(t *testing.T) {
	for _, p := range plain.Polys() {
		for _, a := range []byte{0, 1, 2, 0xFF} {
			if len(poly.Scale(nil, a, p)) != 0 {
				t.Errorf("Scale by nil of %02X and %X tells something", a, p)
			}
		}
		for _, q := range plain.Polys() {
			if len(poly.Mul(nil, p, q)) != 0 {
				t.Errorf("Mul by nil of %X and %X tells something", p, q)
			}
		}
	}
}

// TestSeveralAtATime: many ask by one field; run with -race it tells more.
func TestSeveralAtATime(t *testing.T) {
	p, q := plain.Mixed(1, 200), plain.Mixed(2, 150)
	for name, f := range fields() {
		want := told(field.Of(api.Shift), p, q)
		var all sync.WaitGroup
		wrong := make([]bool, 8)
		for who := range wrong {
			all.Go(func() {
				_, same := plain.Alike(want, told(f, p, q))
				wrong[who] = !same
			})
		}
		all.Wait()
		if slices.Contains(wrong, true) {
			t.Errorf("%s: several at a time were told otherwise", name)
		}
	}
}
