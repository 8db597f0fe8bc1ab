package code_test

import (
	"bytes"
	"math"
	"slices"
	"testing"

	"erratum/api"
	"erratum/code"
	"erratum/field"
	"erratum/matrix"
	"erratum/plain"
	"erratum/quot"
	"erratum/value"
)

func TestExample(t *testing.T) {
	for name, f := range fields() {
		if got := code.Generator(f, api.Code{N: 4, K: 2, B: 0}); !bytes.Equal(got, []byte{2, 3, 1}) {
			t.Errorf("%s: Generator of N 4, K 2, B 0 = %X, not 2, 3, 1", name, got)
		}
	}
}

func TestRight(t *testing.T) {
	for _, c := range append(plain.Codes(), plain.SmallCodes(5)...) {
		if got := code.Right(c); got != api.OK {
			t.Errorf("Right(%v) = %d, not OK", c, got)
		}
	}
}

func TestRightOfCrooked(t *testing.T) {
	for _, c := range plain.CrookedCodes() {
		if got := code.Right(c); got != api.BadParams {
			t.Errorf("Right(%v) = %d, not BadParams", c, got)
		}
	}
}

// TestRightAtAllEdges: all N, K and B around each edge, each held against the chapter's words.
func TestRightAtAllEdges(t *testing.T) {
	near := []int{math.MinInt, -256, -255, -2, -1, 0, 1, 2, 3, 128, 253, 254, 255, 256, 257, 510, math.MaxInt}
	for _, n := range near {
		for _, k := range near {
			for _, b := range near {
				want := api.BadParams
				if k >= 1 && n > k && n <= 255 && b >= 0 && b <= 254 {
					want = api.OK
				}
				if got := code.Right(api.Code{N: n, K: k, B: b}); got != want {
					t.Errorf("Right of N %d, K %d, B %d = %d, not %d", n, k, b, got, want)
				}
			}
		}
	}
}

func TestSpace(t *testing.T) {
	for _, c := range []struct {
		c    api.Code
		want int
	}{
		{api.Code{N: 2, K: 1, B: 0}, 1},
		{api.Code{N: 2, K: 1, B: 254}, 1},
		{api.Code{N: 4, K: 2, B: 0}, 2},
		{api.Code{N: 255, K: 223, B: 112}, 32},
		{api.Code{N: 255, K: 254, B: 254}, 1},
		{api.Code{N: 255, K: 1, B: 0}, 254},
		{api.Code{N: 255, K: 1, B: 254}, 254},
		{api.Code{N: 254, K: 1, B: 0}, 253},
	} {
		if got := code.Space(c.c); got != c.want {
			t.Errorf("Space(%v) = %d, not %d", c.c, got, c.want)
		}
	}
	for _, c := range append(plain.Codes(), plain.SmallCodes(6)...) {
		if got := code.Space(c); got != c.N-c.K {
			t.Errorf("Space(%v) = %d", c, got)
		}
	}
}

func TestPointKnown(t *testing.T) {
	for name, f := range fields() {
		for _, c := range []struct {
			i    int
			want byte
		}{
			{0, 1}, {1, 2}, {2, 4}, {7, 0x80}, {8, 0x1D}, {9, 0x3A}, {25, 3}, {127, 0xCC}, {253, 0x47}, {254, 0x8E}, {255, 1}, {256, 2}, {257, 4},
			{509, 0x8E}, {510, 1}, {511, 2}, {-1, 0x8E}, {-2, 0x47}, {-253, 4}, {-254, 2}, {-255, 1}, {-256, 0x8E}, {-510, 1},
			// The ends of an int, of 32 bits or of 64, are 127 above a multiple of 255.
			{math.MaxInt, 0xCC}, {math.MaxInt - 127, 1}, {math.MinInt, 0xCC}, {math.MinInt + 1, 0x85}, {math.MinInt + 128, 1},
		} {
			if got := code.Point(f, c.i); got != c.want {
				t.Errorf("%s: Point(%d) = %02X, not %02X", name, c.i, got, c.want)
			}
		}
	}
}

// TestPoint: each is twice the one ahead of it, they come again after 255, and not before.
func TestPoint(t *testing.T) {
	for name, f := range fields() {
		for i := -1030; i < 1030; i++ {
			got := code.Point(f, i)
			if want := powersPlain()[(i+255*5)%255]; got != want || got == 0 {
				t.Errorf("%s: Point(%d) = %02X, not %02X", name, i, got, want)
			}
			if next := code.Point(f, i+1); next != plain.Double(got) {
				t.Errorf("%s: Point(%d) = %02X is not twice the one ahead", name, i+1, next)
			}
		}
	}
	if !bytes.Equal(sorted(powersPlain()), allBut(0)) {
		t.Error("the powers are not all bytes but 0")
	}
}

func TestRootsKnown(t *testing.T) {
	for name, f := range fields() {
		for _, c := range []struct {
			c    api.Code
			want []byte
		}{
			{api.Code{N: 2, K: 1, B: 0}, []byte{1}},
			{api.Code{N: 2, K: 1, B: 1}, []byte{2}},
			{api.Code{N: 2, K: 1, B: 254}, []byte{0x8E}},
			{api.Code{N: 255, K: 254, B: 254}, []byte{0x8E}},
			{api.Code{N: 4, K: 2, B: 0}, []byte{1, 2}},
			{api.Code{N: 3, K: 1, B: 254}, []byte{0x8E, 1}},
			{api.Code{N: 5, K: 1, B: 254}, []byte{0x8E, 1, 2, 4}},
			{api.Code{N: 255, K: 249, B: 252}, []byte{0xAD, 0x47, 0x8E, 1, 2, 4}},
			{api.Code{N: 20, K: 11, B: 0}, []byte{1, 2, 4, 8, 0x10, 0x20, 0x40, 0x80, 0x1D}},
			{api.Code{N: 20, K: 17, B: 7}, []byte{0x80, 0x1D, 0x3A}},
		} {
			if got := code.Roots(f, c.c); !bytes.Equal(got, c.want) {
				t.Errorf("%s: Roots(%v) = %X, not %X", name, c.c, got, c.want)
			}
		}
	}
}

// checkRoots: as many as Space, in order, each a power, no two the same.
func checkRoots(t *testing.T, name string, f *field.Field, c api.Code) {
	t.Helper()
	got := code.Roots(f, c)
	if len(got) != code.Space(c) {
		t.Fatalf("%s: Roots(%v) are %d", name, c, len(got))
	}
	for j, root := range got {
		if want := powersPlain()[(c.B+j)%255]; root != want || root != code.Point(f, c.B+j) {
			t.Errorf("%s: Roots(%v)[%d] = %02X, not %02X", name, c, j, root, want)
		}
	}
	if each := slices.Compact(sorted(got)); len(each) != len(got) || each[0] == 0 {
		t.Errorf("%s: Roots(%v) = %X has some twice, or 0", name, c, got)
	}
}

func TestRoots(t *testing.T) {
	for name, f := range fields() {
		for _, c := range append(plain.Codes(), plain.SmallCodes(5)...) {
			checkRoots(t, name, f, c)
		}
	}
}

// TestRootsOfTheGreatest: with K 1 all bytes are roots but 0 and the power ahead of B.
func TestRootsOfTheGreatest(t *testing.T) {
	for name, f := range fields() {
		for _, b := range []int{0, 1, 2, 127, 253, 254} {
			c := api.Code{N: 255, K: 1, B: b}
			checkRoots(t, name, f, c)
			if got := sorted(code.Roots(f, c)); !bytes.Equal(got, allBut(0, code.Point(f, b-1))) {
				t.Errorf("%s: Roots(%v), sorted, = %X", name, c, got)
			}
		}
	}
}

// TestRootsHangOnSpaceAndB: codes of other lengths with the same Space and B have the same.
func TestRootsHangOnSpaceAndB(t *testing.T) {
	for name, f := range fields() {
		for _, c := range plain.SmallCodes(4) {
			far := api.Code{N: 255, K: 255 - (c.N - c.K), B: c.B}
			if got, want := code.Roots(f, far), code.Roots(f, c); !bytes.Equal(got, want) {
				t.Errorf("%s: Roots(%v) = %X, not %X", name, far, got, want)
			}
		}
	}
}

func TestGeneratorKnown(t *testing.T) {
	for name, f := range fields() {
		for _, c := range []struct {
			c    api.Code
			want []byte
		}{
			{api.Code{N: 2, K: 1, B: 0}, []byte{1, 1}},
			{api.Code{N: 2, K: 1, B: 254}, []byte{0x8E, 1}},
			{api.Code{N: 255, K: 254, B: 8}, []byte{0x1D, 1}},
			{api.Code{N: 4, K: 2, B: 1}, []byte{8, 6, 1}},
			{api.Code{N: 4, K: 2, B: 254}, []byte{0x8E, 0x8F, 1}},
			// Those that printed square codes take.
			{api.Code{N: 26, K: 19, B: 0}, []byte{117, 68, 11, 164, 154, 122, 127, 1}},
			{api.Code{N: 26, K: 16, B: 0}, []byte{193, 157, 113, 95, 94, 199, 111, 159, 194, 216, 1}},
			// x^255 + 1 has all bytes but 0 as roots; without 1 all coefficients are 1.
			{api.Code{N: 255, K: 1, B: 1}, slices.Repeat([]byte{1}, 255)},
		} {
			if got := code.Generator(f, c.c); !bytes.Equal(got, c.want) {
				t.Errorf("%s: Generator(%v) = %X, not %X", name, c.c, got, c.want)
			}
		}
	}
}

// TestGenerator: of all small codes and of many others it is the product of their roots; its last byte is 1, its first is not 0.
func TestGenerator(t *testing.T) {
	for _, c := range append(plain.Codes(), plain.SmallCodes(6)...) {
		want := plain.FromZeros(plain.Roots(c)...)
		for name, f := range fields() {
			got := code.Generator(f, c)
			if !bytes.Equal(got, want) || !bytes.Equal(got, value.From(f, code.Roots(f, c))) {
				t.Errorf("%s: Generator(%v) = %X, not %X", name, c, got, want)
			}
			if last := code.Space(c); len(got) != last+1 || got[last] != 1 || got[0] == 0 {
				t.Errorf("%s: Generator(%v) = %X has another length or end", name, c, got)
			}
		}
	}
}

// TestGeneratorIs0AtRootsAlone: at all of them, and nowhere else.
func TestGeneratorIs0AtRootsAlone(t *testing.T) {
	for name, f := range fields() {
		for _, c := range plain.Codes() {
			if got, want := value.Zeros(f, code.Generator(f, c)), sorted(plain.Roots(c)); !bytes.Equal(got, want) {
				t.Errorf("%s: Generator(%v) is 0 at %X, not at %X", name, c, got, want)
			}
		}
	}
	f := field.Of(api.Table)
	for _, c := range plain.SmallCodes(5) {
		if got, want := value.Zeros(f, code.Generator(f, c)), sorted(plain.Roots(c)); !bytes.Equal(got, want) {
			t.Errorf("Generator(%v) is 0 at %X, not at %X", c, got, want)
		}
	}
}

func TestParityKnown(t *testing.T) {
	for name, f := range fields() {
		for _, c := range []struct {
			c    api.Code
			want [][]byte
		}{
			{api.Code{N: 2, K: 1, B: 0}, [][]byte{{1, 1}}},
			{api.Code{N: 2, K: 1, B: 1}, [][]byte{{1, 2}}},
			{api.Code{N: 2, K: 1, B: 254}, [][]byte{{1, 0x8E}}},
			{api.Code{N: 4, K: 2, B: 0}, [][]byte{{1, 1, 1, 1}, {1, 2, 4, 8}}},
			{api.Code{N: 4, K: 1, B: 1}, [][]byte{{1, 2, 4, 8}, {1, 4, 0x10, 0x40}, {1, 8, 0x40, 0x3A}}},
			{api.Code{N: 3, K: 1, B: 254}, [][]byte{{1, 0x8E, 0x47}, {1, 1, 1}}},
		} {
			want, _ := matrix.Of(c.want)
			if got := code.Parity(f, c.c); !matrix.Same(got, want) {
				t.Errorf("%s: Parity(%v) = %v, not %v", name, c.c, got, want)
			}
		}
	}
}

// TestParity: Rows, Cols, and each of the Cells; it is matrix.Right.
func TestParity(t *testing.T) {
	for _, c := range append(plain.Codes(), plain.SmallCodes(4)...) {
		want := parityPlain(c)
		for name, f := range fields() {
			got := code.Parity(f, c)
			if got.Rows != c.N-c.K || got.Cols != c.N || len(got.Cells) != got.Rows*got.Cols || !matrix.Right(got) {
				t.Fatalf("%s: Parity(%v) is %d by %d, with %d cells", name, c, got.Rows, got.Cols, len(got.Cells))
			}
			if !plain.SameMatrix(got, want) {
				t.Errorf("%s: Parity(%v) has other cells", name, c)
			}
		}
	}
}

// lists are as long as a code's words: words, and others with one byte another one, and with many.
func lists(k known) [][]byte {
	l := append(slices.Clone(k.words), make([]byte, k.c.N), slices.Repeat([]byte{1}, k.c.N), plain.Mixed(3, k.c.N))
	for i, w := range k.words {
		l = append(l, plain.Added(w, i*7%k.c.N, 0x21), plain.Added(plain.Added(w, 0, 1), k.c.N-1, 1))
	}
	return l
}

// TestParityBringsWordsToNothing: just those that Has tells to be words.
func TestParityBringsWordsToNothing(t *testing.T) {
	for name, f := range fields() {
		for _, k := range knownCodes() {
			m := code.Parity(f, k.c)
			for _, w := range lists(k) {
				got, ok := matrix.Times(f, m, w)
				nothing := ok && bytes.Equal(got, make([]byte, k.c.N-k.c.K))
				if has := code.Has(f, k.c, w); has != nothing || has != plain.Has(k.c, w) {
					t.Errorf("%s: of %v, Has(%X) is %v, and by Parity it comes to %X", name, k.c, w, has, got)
				}
			}
		}
	}
}

func TestHasKnown(t *testing.T) {
	for name, f := range fields() {
		for _, c := range []struct {
			c    api.Code
			w    []byte
			want bool
		}{
			{api.Code{N: 4, K: 2, B: 0}, []byte{2, 3, 1, 0}, true},
			{api.Code{N: 4, K: 2, B: 0}, []byte{0, 2, 3, 1}, true},
			{api.Code{N: 4, K: 2, B: 0}, []byte{2, 1, 2, 1}, true},
			{api.Code{N: 4, K: 2, B: 0}, []byte{0, 0, 0, 0}, true},
			{api.Code{N: 4, K: 2, B: 0}, []byte{2, 7, 1, 0}, false},
			{api.Code{N: 4, K: 2, B: 0}, []byte{1, 3, 2, 0}, false},
			{api.Code{N: 4, K: 2, B: 0}, []byte{1, 1, 1, 1}, false},
			{api.Code{N: 4, K: 2, B: 0}, []byte{2, 3, 1}, false},
			{api.Code{N: 4, K: 2, B: 0}, []byte{2, 3, 1, 0, 0}, false},
			{api.Code{N: 4, K: 2, B: 1}, []byte{2, 3, 1, 0}, false},
			{api.Code{N: 4, K: 2, B: 254}, []byte{2, 3, 1, 0}, false},
			{api.Code{N: 4, K: 2, B: 254}, []byte{0x8E, 0x8F, 1, 0}, true},
			{api.Code{N: 4, K: 1, B: 0}, []byte{2, 3, 1, 0}, false},
			{api.Code{N: 4, K: 3, B: 0}, []byte{2, 3, 1, 0}, true},
			{api.Code{N: 4, K: 3, B: 1}, []byte{2, 3, 1, 0}, true},
			{api.Code{N: 4, K: 3, B: 2}, []byte{2, 3, 1, 0}, false},
			{api.Code{N: 3, K: 1, B: 0}, []byte{2, 3, 1}, true},
			{api.Code{N: 5, K: 3, B: 0}, []byte{2, 3, 1, 0, 0}, true},
			{api.Code{N: 2, K: 1, B: 254}, []byte{0x8E, 1}, true},
			{api.Code{N: 2, K: 1, B: 254}, []byte{1, 0x8E}, false},
			{api.Code{N: 2, K: 1, B: 254}, []byte{1, 2}, true},
			{api.Code{N: 255, K: 1, B: 1}, slices.Repeat([]byte{0x5C}, 255), true},
			{api.Code{N: 255, K: 1, B: 0}, slices.Repeat([]byte{0x5C}, 255), false},
			{api.Code{N: 2, K: 1, B: 0}, nil, false},
			{api.Code{N: 2, K: 1, B: 0}, []byte{}, false},
		} {
			if got := code.Has(f, c.c, c.w); got != c.want {
				t.Errorf("%s: Has(%v, %X) = %v", name, c.c, c.w, got)
			}
		}
	}
}

// TestHasMultiples: products of Generator with whatever has no more than K coefficients are words, and all 0 is one.
func TestHasMultiples(t *testing.T) {
	for name, f := range fields() {
		for _, k := range knownCodes() {
			g := code.Generator(f, k.c)
			for _, p := range [][]byte{nil, {1}, {2, 3}, plain.Alone(0xFF, k.c.K-1), plain.Mixed(9, k.c.K)} {
				if len(p) > k.c.K {
					continue
				}
				w := plain.Product(g, p)
				if w = plain.Behind(w, k.c.N-len(w)); !code.Has(f, k.c, w) {
					t.Errorf("%s: %v has not %X", name, k.c, w)
				}
			}
			for _, w := range append(slices.Clone(k.words), make([]byte, k.c.N)) {
				if !code.Has(f, k.c, w) {
					t.Errorf("%s: %v has not %X", name, k.c, w)
				}
			}
		}
	}
}

// TestAllWordsAreMultiplesOfOne: of whatever list, Has tells just whether Generator divides it.
func TestAllWordsAreMultiplesOfOne(t *testing.T) {
	for name, f := range fields() {
		for _, k := range knownCodes() {
			g := code.Generator(f, k.c)
			for _, w := range lists(k) {
				left, ok := quot.Mod(f, w, g)
				if has := code.Has(f, k.c, w); !ok || has != (len(left) == 0) {
					t.Errorf("%s: Has(%v, %X) is %v, and Generator leaves %X of it", name, k.c, w, has, left)
				}
			}
		}
	}
}

// TestSumsAndMultiplesOfWords: they are words; with what is none, they are none.
func TestSumsAndMultiplesOfWords(t *testing.T) {
	for name, f := range fields() {
		for _, k := range knownCodes() {
			for i, w := range k.words {
				next := k.words[(i+1)%len(k.words)]
				for _, word := range [][]byte{plain.Xored(w, next), plain.Xored(w, w), plain.Times(0, w), plain.Times(2, w), plain.Times(0xE5, plain.Xored(plain.Times(0x1F, w), next))} {
					if !code.Has(f, k.c, word) {
						t.Errorf("%s: %v has not %X", name, k.c, word)
					}
				}
				none := plain.Added(w, i%k.c.N, 0x40)
				if code.Has(f, k.c, plain.Xored(next, none)) || code.Has(f, k.c, plain.Times(0x77, none)) || !code.Has(f, k.c, plain.Xored(none, none)) {
					t.Errorf("%s: sums and multiples of %X by %v", name, none, k.c)
				}
			}
		}
	}
}

// TestOneByteAnother: at whatever place, by whatever byte, it is no word any more.
func TestOneByteAnother(t *testing.T) {
	for name, f := range fields() {
		for _, k := range knownCodes() {
			w := k.words[len(k.words)-1]
			for at := range k.c.N {
				for _, b := range []byte{1, 0x80, 0xFF, byte(at) | 2} {
					if got := plain.Added(w, at, b); code.Has(f, k.c, got) {
						t.Errorf("%s: %v has %X, which is another word at %d alone", name, k.c, got, at)
					}
				}
			}
		}
	}
}

// TestAsManyBytesAnotherAsSpace: no word is that near to another one; with one byte more some are.
func TestAsManyBytesAnotherAsSpace(t *testing.T) {
	for name, f := range fields() {
		for _, k := range knownCodes() {
			apart := code.Space(k.c)
			for seed, w := range k.words {
				turned := slices.Clone(w)
				for at := range apart {
					turned[(at+seed)%k.c.N] ^= byte(at+seed) | 1
				}
				if code.Has(f, k.c, turned) {
					t.Errorf("%s: %v has two words %d apart", name, k.c, apart)
				}
			}
			if g := k.words[0]; bytes.Count(g, []byte{0}) != k.c.N-apart-1 || !code.Has(f, k.c, g) {
				t.Errorf("%s: of %v, %X is no word that is %d apart from all 0", name, k.c, g, apart+1)
			}
		}
	}
}

// TestHasOfAllShort: of all lists of two bytes each first byte has just one second byte, as B says.
func TestHasOfAllShort(t *testing.T) {
	for name, f := range fields() {
		for _, b := range []int{0, 1, 254} {
			c := api.Code{N: 2, K: 1, B: b}
			root := plain.Power(b)
			plain.AllPairs(func(first, second byte) {
				if got := code.Has(f, c, []byte{first, second}); got != (first == plain.Mul(second, root)) {
					t.Errorf("%s: Has(%v, %02X%02X) = %v", name, c, first, second, got)
				}
			})
		}
	}
}

// TestHasOfOtherLengths: a word with bytes more or fewer is none, noughts as well as others, behind and ahead.
func TestHasOfOtherLengths(t *testing.T) {
	for name, f := range fields() {
		for _, k := range knownCodes() {
			zero := make([]byte, k.c.N)
			for _, w := range append(slices.Clone(k.words), zero) {
				for _, other := range append(plain.Resized(w), nil, w[:1], w[:k.c.N-k.c.K], plain.Strip(w)) {
					if len(other) != k.c.N && code.Has(f, k.c, other) {
						t.Errorf("%s: %v has %X, of %d bytes", name, k.c, other, len(other))
					}
				}
			}
		}
	}
}

// TestWordsWithOneMoreK: a word is one with K one more, from B on and from the next power on; not the other way round.
func TestWordsWithOneMoreK(t *testing.T) {
	for name, f := range fields() {
		for _, k := range knownCodes() {
			if k.c.K+1 == k.c.N {
				continue
			}
			more := api.Code{N: k.c.N, K: k.c.K + 1, B: k.c.B}
			next := api.Code{N: k.c.N, K: k.c.K + 1, B: (k.c.B + 1) % 255}
			for _, w := range k.words {
				if !code.Has(f, more, w) || !code.Has(f, next, w) {
					t.Errorf("%s: %X is a word of %v, but not with K one more", name, w, k.c)
				}
			}
			if g := plain.Multiple(more, []byte{1}); !code.Has(f, more, g) || code.Has(f, k.c, g) {
				t.Errorf("%s: %v, and with K one more, and %X", name, k.c, g)
			}
		}
	}
}

// TestWordsWithANoughtBehind: they are words of the code with N and K one more.
func TestWordsWithANoughtBehind(t *testing.T) {
	for name, f := range fields() {
		for _, k := range knownCodes() {
			longer := api.Code{N: k.c.N + 1, K: k.c.K + 1, B: k.c.B}
			for _, w := range k.words {
				if got := code.Has(f, longer, plain.Behind(w, 1)); got != (k.c.N < 255) {
					t.Errorf("%s: Has(%v, %X, 0) = %v", name, longer, w, got)
				}
			}
		}
	}
}

// TestLongestWordsGoRound: where N is 255, the last byte may be laid ahead of the others.
func TestLongestWordsGoRound(t *testing.T) {
	for name, f := range fields() {
		for _, k := range knownCodes() {
			if k.c.N != 255 {
				continue
			}
			for _, w := range k.words {
				if round := append([]byte{w[254]}, w[:254]...); !code.Has(f, k.c, round) {
					t.Errorf("%s: %v has not %X", name, k.c, round)
				}
			}
		}
	}
}
