package chien_test

import (
	"slices"
	"testing"

	"erratum/api"
	"erratum/chien"
	"erratum/field"
	"erratum/plain"
)

// checkPlaces: just these are told; they are rising, and places of the code.
func checkPlaces(t *testing.T, name string, f *field.Field, c api.Code, l []byte, want []int) {
	t.Helper()
	got := chien.Places(f, c, l)
	if !slices.Equal(got, want) {
		t.Fatalf("%s: Places(%v, %X) = %v, not %v", name, c, l, got, want)
	}
	for n, i := range got {
		if i < 0 || i >= c.N || n > 0 && i <= got[n-1] {
			t.Fatalf("%s: Places(%v, %X) = %v are not places of the code, rising", name, c, l, got)
		}
	}
}

// checkNoPlaces: none is told.
func checkNoPlaces(t *testing.T, name string, f *field.Field, c api.Code, l []byte) {
	t.Helper()
	if got := chien.Places(f, c, l); len(got) > 0 {
		t.Fatalf("%s: Places(%v, %X) = %v, not none", name, c, l, got)
	}
}

// withoutZeros is of what no byte is a zero.
var withoutZeros = []byte{0x20, 1, 1}

func TestExample(t *testing.T) {
	for name, f := range fields() {
		checkPlaces(t, name, f, api.Code{N: 4, K: 2, B: 0}, []byte{1, 2}, []int{1})
	}
}

func TestPlacesKnown(t *testing.T) {
	four, two, greatest, next := api.Code{N: 4, K: 2}, api.Code{N: 2, K: 1, B: 254}, api.Code{N: 255, K: 1, B: 254}, api.Code{N: 254, K: 253, B: 1}
	all := plain.Sum(plain.Alone(1, 255), []byte{1}) // Its zeros are all bytes but 0.
	for name, f := range fields() {
		for _, c := range []struct {
			c    api.Code
			l    []byte
			want []int
		}{
			{four, nil, []int{0, 1, 2, 3}},
			{four, []byte{}, []int{0, 1, 2, 3}},
			{four, []byte{0}, []int{0, 1, 2, 3}},
			{four, []byte{0, 0, 0, 0, 0}, []int{0, 1, 2, 3}},
			{four, []byte{1}, nil},
			{four, []byte{7, 0, 0}, nil},
			{four, []byte{0, 1}, nil}, // Its zero is 0, which is no power.
			{four, []byte{0, 0, 5}, nil},
			{four, []byte{1, 1}, []int{0}},
			{four, []byte{9, 9}, []int{0}},
			{four, []byte{1, 2, 0}, []int{1}},
			{four, []byte{0, 1, 2}, []int{1}},
			{four, []byte{1, 4}, []int{2}},
			{four, []byte{1, 8}, []int{3}},
			{four, []byte{1, 16}, nil}, // The place 4 is none of four.
			{four, []byte{1, 3, 2}, []int{0, 1}},
			{four, []byte{2, 6, 4}, []int{0, 1}},
			{four, []byte{1, 0, 1}, []int{0}},
			{four, []byte{1, 0, 4}, []int{1}},
			{four, []byte{1, 9, 8}, []int{0, 3}},
			{four, []byte{2, 1}, nil}, // Its zero is 2, and so its place 254.
			{four, []byte{2, 3, 1}, []int{0}},
			{four, withoutZeros, nil},
			{four, all, []int{0, 1, 2, 3}},
			{two, nil, []int{0, 1}},
			{two, []byte{1, 1}, []int{0}},
			{two, []byte{1, 2}, []int{1}},
			{two, []byte{1, 4}, nil},
			{two, all, []int{0, 1}},
			{next, []byte{2, 1}, nil},
			{next, []byte{4, 1}, []int{253}},
			{greatest, []byte{2, 1}, []int{254}},
			{greatest, []byte{1, 0x8E}, []int{254}},
			{greatest, []byte{4, 1}, []int{253}},
			{greatest, []byte{2, 3, 1}, []int{0, 254}},
			{greatest, []byte{1, 0x1D}, []int{8}},
			{greatest, []byte{0x1D, 1}, []int{247}},
			{greatest, []byte{0, 1}, nil},
			{greatest, withoutZeros, nil},
		} {
			checkPlaces(t, name, f, c.c, c.l, c.want)
		}
		for _, c := range []api.Code{two, four, next, greatest} {
			for _, l := range [][]byte{nil, make([]byte, 300), all, plain.Scaled(0x77, all), plain.Product(all, []byte{0, 1}), plain.Product(all, all)} {
				checkPlaces(t, name, f, c, l, plain.AllPlaces(c))
			}
		}
	}
}

// TestPlacesOfLocators: of the locator of known places just these, rising, whatever their order; noughts behind it, and a byte by which it is multiplied, change nothing.
func TestPlacesOfLocators(t *testing.T) {
	t.Parallel()
	for _, c := range codes() {
		for n, e := range plain.Places(c) {
			l, want := plain.Locator(e), slices.Sorted(slices.Values(e))
			for name, f := range fields() {
				checkPlaces(t, name, f, c, l, want)
				checkPlaces(t, name, f, c, plain.Behind(l, 1+n*7), want)
				checkPlaces(t, name, f, c, plain.Scaled(byte(n*31+2), l), want)
			}
		}
	}
}

// TestPlacesOfSubsets: of small codes all places of which there may be a locator.
func TestPlacesOfSubsets(t *testing.T) {
	t.Parallel()
	for n := 2; n <= 8; n++ {
		c := api.Code{N: n, K: n/2 + n%2, B: n * 36 % 255}
		for set := range 1 << n {
			e := slices.DeleteFunc(plain.AllPlaces(c), func(i int) bool { return set>>i&1 == 0 })
			l := plain.Locator(e)
			for name, f := range fields() {
				checkPlaces(t, name, f, c, l, e)
			}
		}
	}
}

// factor is a polynomial, and those of a code's places at whose inverses it is 0.
type factor struct {
	p      []byte
	places []int
}

// factors are of many kinds: 0 at no place, at all, at one that stands beside others, and at such as are no places of a shorter code.
func factors(c api.Code) []factor {
	mixed := plain.Mixed(c.B, 20)
	l := []factor{{[]byte{1}, nil}, {[]byte{0xA7}, nil}, {nil, plain.AllPlaces(c)}, {[]byte{0, 0, 0, 9}, nil}, {plain.Product(withoutZeros, withoutZeros), nil},
		{plain.Locator([]int{0}), []int{0}}, {plain.Locator([]int{c.N - 1}), []int{c.N - 1}}, {plain.Locator([]int{1, 1}), []int{1}}, {mixed, placesPlain(c, mixed)}}
	if c.N < api.MaxLen {
		l = append(l, factor{plain.Locator([]int{c.N, 254, (c.N + 254) / 2}), nil})
	}
	return l
}

// TestPlacesOfProducts: those of either factor, each once.
func TestPlacesOfProducts(t *testing.T) {
	t.Parallel()
	for _, c := range codes() {
		for _, other := range factors(c) {
			for n, e := range plain.Places(c) {
				if n%3 != c.B%3 {
					continue
				}
				l := plain.Product(plain.Locator(e), other.p)
				want := slices.Compact(slices.Sorted(slices.Values(slices.Concat(e, other.places))))
				for name, f := range fields() {
					checkPlaces(t, name, f, c, l, want)
				}
			}
		}
	}
}

// TestPlacesOfBytes: of a byte alone all places, if it is 0, else none, with noughts behind it or without.
func TestPlacesOfBytes(t *testing.T) {
	t.Parallel()
	for name, f := range fields() {
		for _, c := range codes() {
			for _, behind := range []int{0, 1, 9} {
				checkPlaces(t, name, f, c, make([]byte, behind), plain.AllPlaces(c))
				for _, b := range []byte{1, 2, 0x80, 0xFF} {
					checkNoPlaces(t, name, f, c, plain.Behind([]byte{b}, behind))
				}
			}
		}
		for b := 1; b < 256; b++ {
			checkNoPlaces(t, name, f, api.Code{N: 5, K: 2, B: b % 255}, []byte{byte(b)})
		}
	}
}

// TestPlacesOfTwoBytes: of all of degree 1.
func TestPlacesOfTwoBytes(t *testing.T) {
	t.Parallel()
	c := api.Code{N: 255, K: 100, B: 3}
	for _, a := range []byte{0, 1, 2, 0x1D, 0xFF} {
		for b := range 256 {
			want := placesPlain(c, []byte{a, byte(b)})
			for name, f := range fields() {
				checkPlaces(t, name, f, c, []byte{a, byte(b)}, want)
			}
		}
	}
}

// TestPlacesOfPolys: polynomials of many kinds, of many lengths of words.
func TestPlacesOfPolys(t *testing.T) {
	t.Parallel()
	for _, c := range lengths() {
		for _, p := range slices.Concat(plain.Polys(), plain.AllShort(3, byte(0), 1, 2, 0x8E, 0xFF)) {
			want := placesPlain(c, p)
			for name, f := range fields() {
				checkPlaces(t, name, f, c, p, want)
			}
		}
	}
}

// TestPlacesOfEachLength: the last place of a word is told, and the next one is not.
func TestPlacesOfEachLength(t *testing.T) {
	t.Parallel()
	all := plain.Sum(plain.Alone(1, 255), []byte{1})
	for n := 2; n <= api.MaxLen; n++ {
		c := api.Code{N: n, K: (n + 1) / 2, B: n - 1}
		for name, f := range fields() {
			checkPlaces(t, name, f, c, nil, plain.AllPlaces(c))
			checkPlaces(t, name, f, c, plain.Locator([]int{n - 1}), []int{n - 1})
			if n < api.MaxLen {
				checkNoPlaces(t, name, f, c, plain.Locator([]int{n}))
				checkPlaces(t, name, f, c, plain.Locator([]int{n, n - 1}), []int{n - 1})
			}
			if n%50 == 5 {
				checkPlaces(t, name, f, c, all, plain.AllPlaces(c))
			}
		}
	}
}

// TestPlacesOfEachKAndB: they change nothing.
func TestPlacesOfEachKAndB(t *testing.T) {
	t.Parallel()
	l := plain.Locator([]int{0, 3, 7, 11, 12, 200})
	for name, f := range fields() {
		for k := 1; k < 12; k++ {
			for b := range 255 {
				checkPlaces(t, name, f, api.Code{N: 12, K: k, B: b}, l, []int{0, 3, 7, 11})
			}
		}
	}
}

// TestPlacesOfCrooked: of a code that is not right none is told, also where all would be.
func TestPlacesOfCrooked(t *testing.T) {
	t.Parallel()
	for name, f := range fields() {
		for _, c := range plain.CrookedCodes() {
			for _, l := range [][]byte{nil, {}, {0}, {0, 0, 0}, {1, 1}, {1, 2}, {1, 3, 2}, {5}, plain.Locator([]int{0, 1, 2, 3, 4, 254})} {
				checkNoPlaces(t, name, f, c, l)
			}
		}
	}
}

// TestPlacesByNone: a nil Field tells none, also where all would be told.
func TestPlacesByNone(t *testing.T) {
	for _, c := range append(codes(), plain.CrookedCodes()...) {
		for _, l := range plain.Polys() {
			checkNoPlaces(t, "nil", nil, c, l)
		}
		checkNoPlaces(t, "nil", nil, c, []byte{1, 1})
		checkNoPlaces(t, "nil", nil, c, []byte{1, 2})
	}
}
