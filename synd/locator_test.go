package synd_test

import (
	"bytes"
	"math"
	"slices"
	"testing"

	"erratum/api"
	"erratum/code"
	"erratum/field"
	"erratum/plain"
	"erratum/poly"
	"erratum/synd"
	"erratum/value"
)

func TestExample(t *testing.T) {
	for name, f := range fields() {
		if got := synd.Locator(f, []int{0, 1}); !bytes.Equal(got, []byte{1, 3, 2}) {
			t.Errorf("%s: Locator of 0, 1 = %X, not 1, 3, 2", name, got)
		}
	}
}

func TestLocatorKnown(t *testing.T) {
	for name, f := range fields() {
		for _, c := range []struct {
			e    []int
			want []byte
		}{
			{nil, []byte{1}},
			{[]int{}, []byte{1}},
			{[]int{0}, []byte{1, 1}},
			{[]int{1}, []byte{1, 2}},
			{[]int{8}, []byte{1, 0x1D}},
			{[]int{254}, []byte{1, 0x8E}},
			{[]int{255}, []byte{1, 1}},
			{[]int{256}, []byte{1, 2}},
			{[]int{-1}, []byte{1, 0x8E}},
			{[]int{-254}, []byte{1, 2}},
			{[]int{-255}, []byte{1, 1}},
			{[]int{-256}, []byte{1, 0x8E}},
			{[]int{math.MaxInt}, []byte{1, 0xCC}},
			{[]int{math.MinInt}, []byte{1, 0xCC}},
			{[]int{1, 0}, []byte{1, 3, 2}},
			{[]int{0, 1, 2}, []byte{1, 7, 14, 8}},
			{[]int{2, 0, 1}, []byte{1, 7, 14, 8}},
			{[]int{254, 1}, []byte{1, 0x8C, 1}},
			{[]int{-1, 256}, []byte{1, 0x8C, 1}},
			// What stands twice is squared: what lies between falls away.
			{[]int{0, 0}, []byte{1, 0, 1}},
			{[]int{1, 1}, []byte{1, 0, 4}},
			{[]int{1, 0, 1}, []byte{1, 1, 4, 4}},
			{[]int{0, 255, -255, 510}, []byte{1, 0, 0, 0, 1}},
			{slices.Repeat([]int{1}, 256), append(plain.Behind([]byte{1}, 255), 2)},
			// All powers are the zeros of x^255 + 1.
			{plain.AllPlaces(api.Code{N: 255, K: 1}), append(plain.Behind([]byte{1}, 254), 1)},
		} {
			if got := synd.Locator(f, c.e); !bytes.Equal(got, c.want) {
				t.Errorf("%s: Locator(%v) = %X, not %X", name, c.e, got, c.want)
			}
		}
	}
}

// placesLists are lists of places, in order or not, each once or not, and of numbers that are none.
var placesLists = slices.Concat(plain.AnyPlaces(), plain.Places(api.Code{N: 255, K: 1}), plain.Places(api.Code{N: 20, K: 7}),
	[][]int{numbers(1, 9), numbers(2, 40), numbers(3, 64), numbers(4, 65), numbers(5, 130), numbers(6, 300)})

// TestLocator: the product, NORMAL, as long as there are places and one more, with 1 for x^0, whatever the order.
func TestLocator(t *testing.T) {
	for _, e := range placesLists {
		want := plain.Locator(e)
		falling := slices.Clone(e)
		slices.Reverse(falling)
		for name, f := range fields() {
			got := synd.Locator(f, e)
			if !bytes.Equal(got, want) {
				t.Fatalf("%s: Locator(%v) = %X, not %X", name, e, got, want)
			}
			if len(got) != len(e)+1 || got[0] != 1 || got[len(e)] == 0 || !bytes.Equal(poly.Norm(got), got) {
				t.Errorf("%s: Locator(%v) = %X is not as it has to be", name, e, got)
			}
			if back := synd.Locator(f, falling); !bytes.Equal(back, want) {
				t.Errorf("%s: Locator of %v, from its end on, = %X, not %X", name, e, back, want)
			}
		}
	}
}

// TestLocatorOfEach: of each number from far below 0 to far above 254, alone and beside another one, code.Point of it.
func TestLocatorOfEach(t *testing.T) {
	for name, f := range fields() {
		for i := -600; i <= 600; i++ {
			p := code.Point(f, i)
			if got := synd.Locator(f, []int{i}); !bytes.Equal(got, []byte{1, p}) {
				t.Errorf("%s: Locator(%d) = %X, not 1, %02X", name, i, got, p)
			}
			if got, want := synd.Locator(f, []int{3, i}), []byte{1, 8 ^ p, f.Mul(8, p)}; !bytes.Equal(got, want) {
				t.Errorf("%s: Locator(3, %d) = %X, not %X", name, i, got, want)
			}
		}
	}
}

// TestLocatorOfMany: more places than there are powers, and a degree above 1000.
func TestLocatorOfMany(t *testing.T) {
	e := append(numbers(7, 1000), numbers(8, 300)...)
	want := plain.Locator(e)
	for name, f := range fields() {
		if got := synd.Locator(f, e); !bytes.Equal(got, want) {
			t.Errorf("%s: Locator of %d places = %X, not %X", name, len(e), got, want)
		}
	}
}

// TestLocatorIsZero: at what each of its places' points is multiplied by to 1, at no other place's, and not at 0.
func TestLocatorIsZero(t *testing.T) {
	for name, f := range fields() {
		for _, e := range placesLists {
			met := map[byte]bool{}
			for _, i := range e {
				met[code.Point(f, i)] = true
			}
			l := synd.Locator(f, e)
			for i := range 255 {
				back, _ := f.Inv(code.Point(f, i))
				if zero := value.At(f, l, back) == 0; zero != met[code.Point(f, i)] {
					t.Errorf("%s: is Locator(%v) 0 at the place %d? %v", name, e, i, zero)
				}
			}
			if got := value.At(f, l, 0); got != 1 {
				t.Errorf("%s: Locator(%v) is %02X at 0, not 1", name, e, got)
			}
		}
	}
}

// TestLocatorIsAProduct: of two lists, one behind the other, the product of both's.
func TestLocatorIsAProduct(t *testing.T) {
	t.Parallel()
	for name, f := range fields() {
		lists := placesLists[:len(placesLists)-1]
		for i, e := range lists {
			for _, d := range [][]int{nil, {0}, {-1}, {5, 5}, e, lists[(i+7)%len(lists)]} {
				want := poly.Mul(f, synd.Locator(f, e), synd.Locator(f, d))
				if got := synd.Locator(f, slices.Concat(e, d)); !bytes.Equal(got, want) {
					t.Errorf("%s: Locator of %v and %v = %X, not %X", name, e, d, got, want)
				}
			}
		}
	}
}

func TestModifiedKnown(t *testing.T) {
	for name, f := range fields() {
		for _, c := range []struct{ s, l, want []byte }{
			{nil, nil, nil},
			{nil, []byte{1, 2, 3}, nil},
			{[]byte{}, []byte{1}, nil},
			{[]byte{5}, nil, []byte{0}},
			{[]byte{5, 6, 7}, nil, []byte{0, 0, 0}},
			{[]byte{5, 6, 7}, []byte{0}, []byte{0, 0, 0}},
			{[]byte{5, 6, 7}, []byte{0, 0, 0, 0, 0}, []byte{0, 0, 0}},
			{[]byte{0, 0}, []byte{7}, []byte{0, 0}},
			{[]byte{0}, []byte{0}, []byte{0}},
			{[]byte{5}, []byte{1}, []byte{5}},
			{[]byte{5}, []byte{1, 9, 9}, []byte{5}},
			{[]byte{5, 6, 7}, []byte{1}, []byte{5, 6, 7}},
			{[]byte{5, 6, 0}, []byte{1}, []byte{5, 6, 0}},
			{[]byte{5, 6, 7}, []byte{2}, []byte{10, 12, 14}},
			{[]byte{5, 6, 7}, []byte{0, 1}, []byte{0, 5, 6}},
			{[]byte{5, 6, 7}, []byte{0, 0, 1}, []byte{0, 0, 5}},
			{[]byte{5, 6, 7}, []byte{0, 0, 0, 1}, []byte{0, 0, 0}},
			{[]byte{1, 0, 0, 0}, []byte{1, 3, 2}, []byte{1, 3, 2, 0}},
			{[]byte{1, 0}, []byte{1, 3, 2}, []byte{1, 3}},
			{[]byte{1, 0, 0}, []byte{1, 3, 0}, []byte{1, 3, 0}},
			{[]byte{1, 2, 4, 8}, []byte{1, 2}, []byte{1, 0, 0, 0}},
			{[]byte{0x80, 0x80}, []byte{0, 2}, []byte{0, 0x1D}},
			{[]byte{4, 8}, []byte{1, 3, 2}, []byte{4, 4}},
		} {
			if got := synd.Modified(f, c.s, c.l); !bytes.Equal(got, c.want) {
				t.Errorf("%s: Modified(%X, %X) = %X, not %X", name, c.s, c.l, got, c.want)
			}
		}
	}
}

// modifiedPlain is the product, cut, or with noughts behind.
func modifiedPlain(s, l []byte) []byte {
	return plain.Behind(plain.Product(s, l), len(s))[:len(s)]
}

// TestModified: of lists of many lengths, either one the longer, with noughts behind and without.
func TestModified(t *testing.T) {
	t.Parallel()
	for _, s := range plain.Polys() {
		for _, l := range plain.Polys() {
			want := modifiedPlain(s, l)
			for name, f := range fields() {
				if got := synd.Modified(f, s, l); !bytes.Equal(got, want) {
					t.Errorf("%s: Modified(%X, %X) = %X, not %X", name, s, l, got, want)
				}
			}
		}
	}
}

// TestModifiedOfAllShort: all s and l of up to three bytes of a few.
func TestModifiedOfAllShort(t *testing.T) {
	lists := plain.AllShort(3, []byte{0, 1, 0xC3}...)
	for name, f := range fields() {
		for _, s := range lists {
			for _, l := range lists {
				if got, want := synd.Modified(f, s, l), modifiedPlain(s, l); !bytes.Equal(got, want) {
					t.Errorf("%s: Modified(%X, %X) = %X, not %X", name, s, l, got, want)
				}
			}
		}
	}
}

// TestModifiedOfLong: degrees above 1000, and what l has beyond s changes nothing.
func TestModifiedOfLong(t *testing.T) {
	s, l := plain.Mixed(1, 1100), plain.Mixed(2, 900)
	want := modifiedPlain(s, l)
	for name, f := range fields() {
		if got := synd.Modified(f, s, l); !bytes.Equal(got, want) {
			t.Errorf("%s: Modified of 1100 and 900 bytes = %X, not %X", name, got, want)
		}
		for _, n := range []int{0, 1, 2, 64, 300} {
			if got, cut := synd.Modified(f, s[:n], l), synd.Modified(f, s[:n], l[:n]); !bytes.Equal(got, cut) || !bytes.Equal(got, want[:n]) {
				t.Errorf("%s: Modified of %d and 900 bytes = %X, and %X of as many", name, n, got, cut)
			}
		}
	}
}

// erasedWrong is a word with whatever stands at some places.
func erasedWrong(w []byte, e []int, seed int) []byte {
	turned := slices.Clone(w)
	for n, i := range e {
		turned[i] ^= plain.Mixed(seed, len(e))[n]
	}
	return turned
}

// TestModifiedBehindErased: whatever stands at the erased places alone, behind as many bytes as they are it is 0.
func TestModifiedBehindErased(t *testing.T) {
	t.Parallel()
	for name, f := range fields() {
		t.Run(name, func(t *testing.T) {
			t.Parallel()
			for _, k := range knownCodes() {
				for seed, e := range plain.Places(k.c) {
					l := synd.Locator(f, e)
					got := synd.Modified(f, synd.Syndromes(f, k.c, erasedWrong(k.words[seed%len(k.words)], e, seed)), l)
					if len(got) != len(k.roots) || len(plain.Strip(got)) > len(e) {
						t.Fatalf("%s: Modified of %v with %v erased = %X", name, k.c, e, got)
					}
				}
			}
		})
	}
}

// TestModifiedBehindWrong: a byte that is wrong elsewhere is seen in each of those behind, and there is as if nothing were erased and wrong.
func TestModifiedBehindWrong(t *testing.T) {
	t.Parallel()
	for name, f := range fields() {
		for _, k := range knownCodes() {
			for _, e := range plain.Places(k.c) {
				at := slices.IndexFunc(plain.AllPlaces(k.c), func(i int) bool { return !slices.Contains(e, i) })
				if at < 0 || len(e) >= len(k.roots) {
					continue
				}
				l, wrong := synd.Locator(f, e), plain.Added(k.words[0], at, 0x35)
				behind := synd.Modified(f, synd.Syndromes(f, k.c, erasedWrong(wrong, e, at)), l)[len(e):]
				alone := synd.Modified(f, synd.Syndromes(f, k.c, wrong), l)[len(e):]
				if bytes.Contains(behind, []byte{0}) || !bytes.Equal(behind, alone) {
					t.Errorf("%s: of %v with %v erased and %d wrong, Modified is %X behind, not %X", name, k.c, e, at, behind, alone)
				}
			}
		}
	}
}

// checkNothing: no call tells anything by a nil Field.
func checkNothing(t *testing.T, c api.Code, w []byte, e []int, s, l []byte) {
	t.Helper()
	var none *field.Field
	checkNoneOfAny(t, "nil", none, c)
	checkNone(t, "nil", none, c, w)
	if got := synd.Locator(none, e); len(got) != 0 {
		t.Errorf("Locator by nil of %v = %X", e, got)
	}
	if got := synd.Modified(none, s, l); len(got) != 0 {
		t.Errorf("Modified by nil of %X and %X = %X", s, l, got)
	}
}

// TestNilField: nothing is told, also of no places, of lists that are all 0, and of codes that are not right.
func TestNilField(t *testing.T) {
	for _, k := range knownCodes() {
		for _, r := range k.lists {
			for _, e := range plain.Places(k.c) {
				checkNothing(t, k.c, r.w, e, r.syndromes, []byte{1})
			}
		}
	}
	for _, c := range plain.CrookedCodes() {
		checkNothing(t, c, nil, nil, nil, nil)
	}
	for i, e := range placesLists {
		checkNothing(t, api.Code{N: 4, K: 2}, make([]byte, 4), e, make([]byte, i), plain.Mixed(i, 3))
	}
}
