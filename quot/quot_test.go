package quot_test

import (
	"bytes"
	"slices"
	"sync"
	"testing"

	"erratum/api"
	"erratum/field"
	"erratum/plain"
	"erratum/poly"
	"erratum/quot"
)

// fields are one of each backend.
func fields() map[string]*field.Field {
	return map[string]*field.Field{
		"Table": field.Of(api.Table),
		"Shift": field.Of(api.Shift),
		"Lanes": field.Of(api.Lanes),
	}
}

// some are the polynomials that are not 0.
func some() [][]byte {
	return slices.DeleteFunc(plain.Polys(), func(p []byte) bool { return len(plain.Strip(p)) == 0 })
}

// noughts are the polynomials that are 0.
func noughts() [][]byte {
	return slices.DeleteFunc(plain.Polys(), func(p []byte) bool { return len(plain.Strip(p)) > 0 })
}

// right says whether a pair is what Div is to tell: there is no other one.
func right(p, q, times, left []byte) bool {
	return plain.Normal(times) && plain.Normal(left) && len(left) < len(plain.Strip(q)) &&
		bytes.Equal(plain.Sum(plain.Product(times, q), left), plain.Strip(p))
}

func TestExample(t *testing.T) {
	for name, f := range fields() {
		times, left, ok := quot.Div(f, []byte{1, 0, 1}, []byte{1, 1})
		if !ok || !bytes.Equal(times, []byte{1, 1}) || len(left) != 0 {
			t.Errorf("%s: Div of 1, 0, 1 by 1, 1 = %X, %X, %v, not 1, 1 and nothing", name, times, left, ok)
		}
	}
}

func TestDivKnown(t *testing.T) {
	for name, f := range fields() {
		for _, c := range []struct{ p, q, times, left []byte }{
			{nil, []byte{1}, nil, nil},
			{nil, []byte{1, 2, 0}, nil, nil},
			{[]byte{0, 0}, []byte{5}, nil, nil},
			{[]byte{0, 0, 0, 0}, []byte{5, 1}, nil, nil},
			{[]byte{1}, []byte{2}, []byte{0x8E}, nil},
			{[]byte{0x1D, 0}, []byte{2, 0, 0}, []byte{0x80}, nil},
			{[]byte{7}, []byte{1, 1}, nil, []byte{7}},
			{[]byte{1, 2, 0}, []byte{1, 2, 3}, nil, []byte{1, 2}},
			{[]byte{1, 2, 3}, []byte{1}, []byte{1, 2, 3}, nil},
			{[]byte{2, 4, 6, 0}, []byte{2, 0}, []byte{1, 2, 3}, nil},
			{[]byte{1, 2, 3}, []byte{1, 2, 3, 0}, []byte{1}, nil},
			{[]byte{2, 4, 6}, []byte{1, 2, 3}, []byte{2}, nil},
			{[]byte{2, 4, 7}, []byte{0, 0, 1}, []byte{7}, []byte{2, 4}},
			{[]byte{2, 4, 7}, []byte{0, 1}, []byte{4, 7}, []byte{2}},
			{[]byte{1, 1, 1}, []byte{1, 1}, []byte{0, 1}, []byte{1}},
			{[]byte{2, 3, 1}, []byte{2, 1}, []byte{1, 1}, nil},
			{[]byte{3, 3, 1}, []byte{2, 1}, []byte{1, 1}, []byte{1}},
			{[]byte{5, 0, 0, 1}, []byte{0, 0, 1}, []byte{0, 1}, []byte{5}},
			{[]byte{0, 0, 0, 2}, []byte{0, 0, 4}, []byte{0, 0x8E}, nil},
		} {
			times, left, ok := quot.Div(f, c.p, c.q)
			if !ok || !bytes.Equal(times, c.times) || !bytes.Equal(left, c.left) {
				t.Errorf("%s: Div(%X, %X) = %X, %X, %v, not %X, %X", name, c.p, c.q, times, left, ok, c.times, c.left)
			}
			if left, ok := quot.Mod(f, c.p, c.q); !ok || !bytes.Equal(left, c.left) {
				t.Errorf("%s: Mod(%X, %X) = %X, %v, not %X", name, c.p, c.q, left, ok, c.left)
			}
			want := c.times
			if len(c.left) > 0 {
				want = nil
			}
			if times, ok := quot.Exact(f, c.p, c.q); ok != (len(c.left) == 0) || !bytes.Equal(times, want) {
				t.Errorf("%s: Exact(%X, %X) = %X, %v, not %X", name, c.p, c.q, times, ok, want)
			}
		}
	}
}

// TestDivWithoutX: of degree 0, all by all.
func TestDivWithoutX(t *testing.T) {
	for name, f := range fields() {
		plain.AllPairs(func(a, b byte) {
			times, left, ok := quot.Div(f, []byte{a}, []byte{b})
			if ok != (b != 0) || len(left) != 0 || ok && !right([]byte{a}, []byte{b}, times, left) || !ok && len(times) != 0 {
				t.Fatalf("%s: Div(%02X, %02X) = %X, %X, %v", name, a, b, times, left, ok)
			}
		})
	}
}

// TestDiv: all by all, so shorter ones by longer ones and the other way about, and each by itself; what is divided is put together again.
func TestDiv(t *testing.T) {
	for _, q := range some() {
		for _, p := range plain.Polys() {
			var first [][]byte
			for name, f := range fields() {
				times, left, ok := quot.Div(f, p, q)
				if !ok {
					t.Errorf("%s: Div(%X, %X) is false", name, p, q)
				}
				if first == nil {
					first = [][]byte{times, left}
					if !right(p, q, times, left) {
						t.Errorf("%s: Div(%X, %X) = %X, %X", name, p, q, times, left)
					}
				}
				if !bytes.Equal(times, first[0]) || !bytes.Equal(left, first[1]) {
					t.Errorf("%s: Div(%X, %X) is another one than by another backend: %X, %X", name, p, q, times, left)
				}
			}
		}
	}
}

// TestDivByItself: once, and nothing is left, whatever noughts lie behind; by a multiple of itself it is the inverse of what that was multiplied by.
func TestDivByItself(t *testing.T) {
	for name, f := range fields() {
		for _, p := range some() {
			for _, q := range [][]byte{p, slices.Clone(p), plain.Behind(p, 5), plain.Strip(p)} {
				times, left, ok := quot.Div(f, p, q)
				if !ok || !bytes.Equal(times, []byte{1}) || len(left) != 0 {
					t.Errorf("%s: Div(%X, %X) = %X, %X, %v", name, p, q, times, left, ok)
				}
			}
			times, left, ok := quot.Div(f, p, plain.Scaled(2, p))
			if !ok || !bytes.Equal(times, []byte{0x8E}) || len(left) != 0 {
				t.Errorf("%s: Div(%X, twice that) = %X, %X, %v", name, p, times, left, ok)
			}
		}
	}
}

// TestDivShorterByLonger: nothing, and all of it is left.
func TestDivShorterByLonger(t *testing.T) {
	for name, f := range fields() {
		for _, p := range plain.Polys() {
			for _, more := range []int{1, 2, 70} {
				q := plain.Alone(9, len(plain.Strip(p))-1+more)
				times, left, ok := quot.Div(f, p, q)
				if !ok || len(times) != 0 || !bytes.Equal(left, plain.Strip(p)) {
					t.Errorf("%s: Div(%X, %X) = %X, %X, %v", name, p, q, times, left, ok)
				}
			}
		}
	}
}

// TestDivLong: degrees are not bounded, as a shifted polynomial's is.
func TestDivLong(t *testing.T) {
	p := append(plain.Mixed(3, 3000), 7)
	for _, q := range [][]byte{{2, 3}, plain.Alone(4, 999), plain.Alone(4, 1000), plain.Alone(4, 1001), append(plain.Mixed(5, 1500), 9),
		append(plain.Mixed(6, 2999), 0xFF), append(plain.Mixed(7, 3000), 2), plain.Alone(3, 3001)} {
		for name, f := range fields() {
			times, left, ok := quot.Div(f, p, q)
			if !ok || !right(p, q, times, left) {
				t.Errorf("%s: what has the degree 3000 is not divided by what has the degree %d", name, len(q)-1)
			}
		}
	}
}

// TestDivByPowers: by x^i what is left are the coefficients below i, as poly's Shift and Cut tell.
func TestDivByPowers(t *testing.T) {
	for name, f := range fields() {
		for _, p := range plain.Polys() {
			for _, i := range []int{0, 1, 2, 63, 64, 65, 200, 299, 300} {
				times, left, ok := quot.Div(f, p, plain.Alone(1, i))
				if !ok || !bytes.Equal(times, poly.Shift(p, -i)) || !bytes.Equal(left, poly.Cut(p, i)) {
					t.Errorf("%s: Div(%X, x^%d) = %X, %X, %v", name, p, i, times, left, ok)
				}
			}
		}
	}
}

// TestDivPutTogether: a product and something shorter is divided into just these.
func TestDivPutTogether(t *testing.T) {
	for name, f := range fields() {
		for seed := range 60 {
			q := append(plain.Mixed(seed, seed*5%90), byte(seed+1))
			times, left := plain.Strip(plain.Mixed(seed+7, seed*7%130)), plain.Strip(plain.Mixed(seed+19, len(q)-1))
			p := plain.Behind(plain.Sum(plain.Product(times, q), left), seed%4)
			gotTimes, gotLeft, ok := quot.Div(f, p, plain.Behind(q, seed%3))
			if !ok || !bytes.Equal(gotTimes, times) || !bytes.Equal(gotLeft, left) {
				t.Errorf("%s: %X times %X, and %X, is divided into %X and %X, %v", name, q, times, left, gotTimes, gotLeft, ok)
			}
		}
	}
}

func TestByNothing(t *testing.T) {
	for name, f := range fields() {
		for _, q := range noughts() {
			for _, p := range plain.Polys() {
				if times, left, ok := quot.Div(f, p, q); ok || len(times) != 0 || len(left) != 0 {
					t.Errorf("%s: Div(%X, %X) = %X, %X, %v", name, p, q, times, left, ok)
				}
				if left, ok := quot.Mod(f, p, q); ok || len(left) != 0 {
					t.Errorf("%s: Mod(%X, %X) = %X, %v", name, p, q, left, ok)
				}
				if times, ok := quot.Exact(f, p, q); ok || len(times) != 0 {
					t.Errorf("%s: Exact(%X, %X) = %X, %v", name, p, q, times, ok)
				}
			}
		}
	}
}

// TestModAndExact: of all by all they tell what Div does.
func TestModAndExact(t *testing.T) {
	for name, f := range fields() {
		for _, p := range plain.Polys() {
			for _, q := range some() {
				times, left, _ := quot.Div(f, p, q)
				if got, ok := quot.Mod(f, p, q); !ok || !bytes.Equal(got, left) {
					t.Errorf("%s: Mod(%X, %X) = %X, %v, not %X", name, p, q, got, ok, left)
				}
				if len(left) > 0 {
					times = nil
				}
				if got, ok := quot.Exact(f, p, q); ok != (len(left) == 0) || !bytes.Equal(got, times) {
					t.Errorf("%s: Exact(%X, %X) = %X, %v, not %X", name, p, q, got, ok, times)
				}
			}
		}
	}
}

// TestProductsByFactors: the other factor is told, till something is added to the product.
func TestProductsByFactors(t *testing.T) {
	for name, f := range fields() {
		for seed, p := range plain.Polys() {
			q := plain.Behind(append(plain.Mixed(seed, seed*3), byte(seed+1)), seed%3)
			product := plain.Behind(plain.Product(p, q), seed%5)
			if got, ok := quot.Exact(f, product, q); !ok || !bytes.Equal(got, plain.Strip(p)) {
				t.Errorf("%s: Exact(%X, %X) = %X, %v, not %X", name, product, q, got, ok, p)
			}
			if got, ok := quot.Mod(f, product, q); !ok || len(got) != 0 {
				t.Errorf("%s: Mod(%X, %X) = %X, %v", name, product, q, got, ok)
			}
			for i := 0; i < len(plain.Strip(q))-1; i += 1 + i/2 {
				more := plain.Sum(product, plain.Alone(6, i))
				if got, ok := quot.Exact(f, more, q); ok || len(got) != 0 {
					t.Errorf("%s: Exact(%X, %X) = %X, %v", name, more, q, got, ok)
				}
				if got, ok := quot.Mod(f, more, q); !ok || !bytes.Equal(got, plain.Alone(6, i)) {
					t.Errorf("%s: Mod(%X, %X) = %X, %v, not 6 times x^%d", name, more, q, got, ok, i)
				}
			}
		}
	}
}

// TestExactOfNothing: 0 is a multiple of all; its quotient is nothing, and that is true.
func TestExactOfNothing(t *testing.T) {
	for name, f := range fields() {
		for _, p := range noughts() {
			for _, q := range some() {
				if got, ok := quot.Exact(f, p, q); !ok || len(got) != 0 {
					t.Errorf("%s: Exact(%X, %X) = %X, %v", name, p, q, got, ok)
				}
			}
		}
	}
}

func TestMonicKnown(t *testing.T) {
	for name, f := range fields() {
		for _, c := range []struct{ p, want []byte }{
			{nil, nil},
			{[]byte{}, nil},
			{[]byte{0}, nil},
			{[]byte{0, 0, 0}, nil},
			{[]byte{1}, []byte{1}},
			{[]byte{0xFF, 0, 0}, []byte{1}},
			{[]byte{1, 2}, []byte{0x8E, 1}},
			{[]byte{2, 0, 4, 2, 0}, []byte{1, 0, 2, 1}},
			{[]byte{0, 9}, []byte{0, 1}},
			{[]byte{9, 8, 1, 0}, []byte{9, 8, 1}},
		} {
			if got := quot.Monic(f, c.p); !bytes.Equal(got, c.want) {
				t.Errorf("%s: Monic(%X) = %X, not %X", name, c.p, got, c.want)
			}
		}
	}
}

func TestMonic(t *testing.T) {
	for name, f := range fields() {
		for _, p := range plain.Polys() {
			want := plain.Monic(p)
			if got := quot.Monic(f, p); !bytes.Equal(got, want) {
				t.Errorf("%s: Monic(%X) = %X, not %X", name, p, got, want)
			}
			for a := 1; a < 256; a++ {
				if got := quot.Monic(f, plain.Scaled(byte(a), p)); !bytes.Equal(got, want) {
					t.Errorf("%s: Monic of %02X times %X = %X, not %X", name, a, p, got, want)
				}
			}
		}
	}
}

// TestGcdKnown: of both orders.
func TestGcdKnown(t *testing.T) {
	for name, f := range fields() {
		for _, c := range []struct{ p, q, want []byte }{
			{nil, nil, nil},
			{nil, []byte{0, 0, 0}, nil},
			{[]byte{0}, []byte{0, 0}, nil},
			{nil, []byte{1}, []byte{1}},
			{nil, []byte{0xFF, 0}, []byte{1}},
			{[]byte{0, 0}, []byte{1, 2, 0}, []byte{0x8E, 1}},
			{[]byte{5}, []byte{7}, []byte{1}},
			{[]byte{5}, []byte{1, 2, 3}, []byte{1}},
			{[]byte{2, 2}, []byte{2, 2}, []byte{1, 1}},
			{[]byte{0, 1}, []byte{0, 0, 3}, []byte{0, 1}},
			{[]byte{1, 0, 1}, []byte{1, 1}, []byte{1, 1}},
			{[]byte{1, 1}, []byte{2, 1}, []byte{1}},
			{[]byte{2, 3, 1}, []byte{6, 1, 1}, []byte{2, 1}},
			{[]byte{1, 0, 1, 0}, []byte{2, 3, 1, 0, 0}, []byte{1, 1}},
		} {
			if got := quot.Gcd(f, c.p, c.q); !bytes.Equal(got, c.want) {
				t.Errorf("%s: Gcd(%X, %X) = %X, not %X", name, c.p, c.q, got, c.want)
			}
			if got := quot.Gcd(f, c.q, c.p); !bytes.Equal(got, c.want) {
				t.Errorf("%s: Gcd(%X, %X) = %X, not %X", name, c.q, c.p, got, c.want)
			}
		}
	}
}

// TestGcdOfZeros: with factors that are known, the common ones are told, as often as both have them.
func TestGcdOfZeros(t *testing.T) {
	for name, f := range fields() {
		for _, c := range []struct{ p, q, want []byte }{
			{[]byte{1, 2, 3}, []byte{2, 3, 4}, []byte{2, 3}},
			{[]byte{1, 1, 1, 5}, []byte{1, 1, 7, 5, 5}, []byte{1, 1, 5}},
			{[]byte{0, 0, 9}, []byte{0, 9, 9, 0, 0}, []byte{0, 0, 9}},
			{[]byte{1, 2, 3, 4}, []byte{5, 6, 7, 8, 9}, nil},
			{nil, []byte{5, 6}, nil},
			{[]byte{0x80, 0xFF, 0x1D}, []byte{0xFF, 0x1D, 0x80, 1}, []byte{0x1D, 0x80, 0xFF}},
		} {
			p, q, want := plain.Scaled(6, plain.FromZeros(c.p...)), plain.Scaled(0xE1, plain.FromZeros(c.q...)), plain.FromZeros(c.want...)
			if got := quot.Gcd(f, p, q); !bytes.Equal(got, want) {
				t.Errorf("%s: Gcd of the zeros %X and %X = %X, not %X", name, c.p, c.q, got, want)
			}
			if got := quot.Gcd(f, q, p); !bytes.Equal(got, want) {
				t.Errorf("%s: Gcd of the zeros %X and %X = %X, not %X", name, c.q, c.p, got, want)
			}
		}
	}
}

// TestGcd: all with all, so of both orders, and each with itself.
func TestGcd(t *testing.T) {
	for _, p := range plain.Polys() {
		for _, q := range plain.Polys() {
			want := plain.Gcd(p, q)
			for name, f := range fields() {
				if got := quot.Gcd(f, p, q); !bytes.Equal(got, want) {
					t.Errorf("%s: Gcd(%X, %X) = %X, not %X", name, p, q, got, want)
				}
			}
		}
	}
}

// TestGcdOfMultiples: what both are multiplied by is in what divides both; of the two, divided by it, nothing is common any more.
func TestGcdOfMultiples(t *testing.T) {
	for name, f := range fields() {
		for seed := range 40 {
			r := append(plain.Mixed(seed, seed), byte(seed+1))
			p, q := plain.Product(plain.Mixed(seed+3, seed*7%80), r), plain.Product(append(plain.Mixed(seed+5, seed*5%90), 3), r)
			got := quot.Gcd(f, p, plain.Behind(q, seed%3))
			if again := quot.Gcd(f, q, p); !bytes.Equal(got, again) {
				t.Errorf("%s: Gcd of %X and %X hangs on their order: %X, %X", name, p, q, got, again)
			}
			one, okOne := quot.Exact(f, p, got)
			other, okOther := quot.Exact(f, q, got)
			if _, of := quot.Exact(f, got, r); !okOne || !okOther || !of {
				t.Errorf("%s: Gcd of %X and %X, multiples of %X, is %X", name, p, q, r, got)
			}
			if rest := quot.Gcd(f, one, other); !bytes.Equal(rest, []byte{1}) {
				t.Errorf("%s: Gcd of %X and %X leaves %X to divide by", name, p, q, rest)
			}
		}
	}
}

// TestGcdWithNoneAndItself: of what is alone, or equal, it is its Monic.
func TestGcdWithNoneAndItself(t *testing.T) {
	for name, f := range fields() {
		for _, p := range plain.Polys() {
			want := plain.Monic(p)
			for _, q := range append(noughts(), p, plain.Behind(p, 3), plain.Scaled(0x53, p)) {
				if got := quot.Gcd(f, p, q); !bytes.Equal(got, want) {
					t.Errorf("%s: Gcd(%X, %X) = %X, not %X", name, p, q, got, want)
				}
				if got := quot.Gcd(f, q, p); !bytes.Equal(got, want) {
					t.Errorf("%s: Gcd(%X, %X) = %X, not %X", name, q, p, got, want)
				}
			}
		}
	}
}

// told is all that is told of two polynomials: every call, with what is left and without.
func told(f *field.Field, p, q []byte) map[string][]byte {
	l := map[string][]byte{
		"Monic":              quot.Monic(f, p),
		"Monic of Monic":     quot.Monic(f, quot.Monic(f, p)),
		"Gcd":                quot.Gcd(f, p, q),
		"Gcd, turned":        quot.Gcd(f, q, p),
		"Gcd with none":      quot.Gcd(f, p, nil),
		"Gcd of none":        quot.Gcd(f, nil, p),
		"Gcd with itself":    quot.Gcd(f, p, p),
		"Gcd with a product": quot.Gcd(f, p, plain.Product(p, q)),
	}
	l["Div"], l["Div, left"], _ = quot.Div(f, p, q)
	l["Div, turned"], l["Div, turned, left"], _ = quot.Div(f, q, p)
	l["Div by 1"], l["Div by 1, left"], _ = quot.Div(f, p, []byte{1})
	l["Div by itself"], l["Div by itself, left"], _ = quot.Div(f, p, p)
	l["Div by longer"], l["Div by longer, left"], _ = quot.Div(f, p, plain.Alone(1, len(p)))
	l["Mod"], _ = quot.Mod(f, p, q)
	l["Mod, turned"], _ = quot.Mod(f, q, p)
	l["Mod by longer"], _ = quot.Mod(f, p, plain.Alone(1, len(p)))
	l["Exact"], _ = quot.Exact(f, p, q)
	l["Exact by 1"], _ = quot.Exact(f, p, []byte{1})
	l["Exact by itself"], _ = quot.Exact(f, p, p)
	l["Exact of a product"], _ = quot.Exact(f, plain.Product(p, q), q)
	return l
}

// beside is a polynomial of a middle degree, with noughts behind it, for another one to be divided by.
func beside(p []byte) []byte { return plain.Behind(append(plain.Mixed(len(p)+2, 30), 5), 3) }

func TestToldIsNormal(t *testing.T) {
	for name, f := range fields() {
		for _, p := range plain.Polys() {
			for _, q := range append(noughts(), beside(p), []byte{0, 3, 0}, []byte{6, 0}, plain.Behind(p, 2)) {
				for call, l := range told(f, p, q) {
					if !plain.Normal(l) {
						t.Fatalf("%s: %s of %X and %X is not normal: %X", name, call, p, q, l)
					}
				}
			}
		}
	}
}

// TestHandedInStays: lists are as they were, and so is what lies behind their length; none of it is read or told.
func TestHandedInStays(t *testing.T) {
	for name, f := range fields() {
		for _, p := range plain.Polys() {
			q := beside(p)
			wholeP, innerP := plain.Framed(p)
			wholeQ, innerQ := plain.Framed(q)
			wasP, wasQ := slices.Clone(wholeP), slices.Clone(wholeQ)
			if call, same := plain.Alike(told(f, p, q), told(f, innerP, innerQ)); !same {
				t.Errorf("%s: %s reads behind %X", name, call, p)
			}
			if !bytes.Equal(wholeP, wasP) || !bytes.Equal(wholeQ, wasQ) {
				t.Errorf("%s: %X was changed", name, p)
			}
		}
	}
}

// TestToldIsNew: what is told stays, whatever becomes of what was handed in or of what was told beside it.
func TestToldIsNew(t *testing.T) {
	for name, f := range fields() {
		for _, p := range plain.Polys() {
			wholeP, innerP := plain.Framed(p)
			wholeQ, innerQ := plain.Framed(beside(p))
			first := told(f, innerP, innerQ)
			want := plain.Copied(first)
			for _, l := range told(f, innerP, innerQ) {
				clear(l[:cap(l)])
			}
			clear(wholeP)
			clear(wholeQ)
			if call, same := plain.Alike(want, first); !same {
				t.Errorf("%s: %s of %X shares memory with what was handed in or told before", name, call, p)
			}
			for call, l := range first {
				clear(l[:cap(l)])
				want[call] = make([]byte, len(l))
				if other, same := plain.Alike(want, first); !same {
					t.Errorf("%s: %s and %s of %X share memory", name, call, other, p)
				}
			}
		}
	}
}

// TestToldIsFarFromBehind: what is told may be written to its capacity's end, and what was handed in stays.
func TestToldIsFarFromBehind(t *testing.T) {
	for name, f := range fields() {
		for _, p := range plain.Polys() {
			wholeP, innerP := plain.Framed(p)
			wholeQ, innerQ := plain.Framed(beside(p))
			wasP, wasQ := slices.Clone(wholeP), slices.Clone(wholeQ)
			for call, l := range told(f, innerP, innerQ) {
				plain.Spoil(l)
				if !bytes.Equal(wholeP, wasP) || !bytes.Equal(wholeQ, wasQ) {
					t.Fatalf("%s: %s of %X hands out what was handed in", name, call, p)
				}
			}
		}
	}
}

// TestOneListTwice: a list that is handed in twice is divided as two equal ones are, and stays.
func TestOneListTwice(t *testing.T) {
	for name, f := range fields() {
		for _, p := range plain.Polys() {
			was := slices.Clone(p)
			if call, same := plain.Alike(told(f, slices.Clone(p), slices.Clone(p)), told(f, p, p)); !same || !bytes.Equal(p, was) {
				t.Errorf("%s: %s of %X, handed in twice, is another one", name, call, was)
			}
		}
	}
}

func TestNilField(t *testing.T) {
	for _, p := range plain.Polys() {
		if len(quot.Monic(nil, p)) != 0 {
			t.Errorf("Monic by nil of %X tells something", p)
		}
		for _, q := range plain.Polys() {
			if times, left, ok := quot.Div(nil, p, q); ok || len(times) != 0 || len(left) != 0 {
				t.Errorf("Div by nil of %X and %X tells something", p, q)
			}
			if left, ok := quot.Mod(nil, p, q); ok || len(left) != 0 {
				t.Errorf("Mod by nil of %X and %X tells something", p, q)
			}
			if times, ok := quot.Exact(nil, p, q); ok || len(times) != 0 {
				t.Errorf("Exact by nil of %X and %X tells something", p, q)
			}
			if len(quot.Gcd(nil, p, q)) != 0 {
				t.Errorf("Gcd by nil of %X and %X tells something", p, q)
			}
		}
	}
}

// TestSeveralAtATime: many ask by one field; run with -race it tells more.
func TestSeveralAtATime(t *testing.T) {
	p, q := plain.Mixed(1, 200), plain.Mixed(2, 150)
	for name, f := range fields() {
		want := told(field.Of(api.Shift), p, q)
		var all sync.WaitGroup
		wrong := make([]bool, 8)
		for who := range wrong {
			all.Go(func() {
				_, same := plain.Alike(want, told(f, p, q))
				wrong[who] = !same
			})
		}
		all.Wait()
		if slices.Contains(wrong, true) {
			t.Errorf("%s: several at a time were told otherwise", name)
		}
	}
}
