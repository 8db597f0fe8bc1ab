package synd_test

import (
	"bytes"
	"slices"
	"testing"

	"erratum/api"
	"erratum/code"
	"erratum/field"
	"erratum/plain"
	"erratum/synd"
)

func TestSyndromesKnown(t *testing.T) {
	for name, f := range fields() {
		for _, c := range []struct {
			c       api.Code
			w, want []byte
		}{
			{api.Code{N: 2, K: 1, B: 0}, []byte{5, 9}, []byte{5 ^ 9}},
			{api.Code{N: 2, K: 1, B: 1}, []byte{5, 9}, []byte{5 ^ 18}},
			{api.Code{N: 2, K: 1, B: 254}, []byte{1, 2}, []byte{0}},
			{api.Code{N: 2, K: 1, B: 254}, []byte{0, 1}, []byte{0x8E}},
			{api.Code{N: 4, K: 2, B: 0}, []byte{2, 3, 1, 0}, []byte{0, 0}},
			{api.Code{N: 4, K: 2, B: 0}, []byte{2, 7, 1, 0}, []byte{4, 8}},
			{api.Code{N: 4, K: 2, B: 0}, []byte{1, 0, 0, 0}, []byte{1, 1}},
			{api.Code{N: 4, K: 2, B: 0}, []byte{0, 1, 0, 0}, []byte{1, 2}},
			{api.Code{N: 4, K: 2, B: 0}, []byte{0, 0, 1, 0}, []byte{1, 4}},
			{api.Code{N: 4, K: 2, B: 0}, []byte{0, 0, 0, 1}, []byte{1, 8}},
			{api.Code{N: 4, K: 2, B: 254}, []byte{0, 1, 0, 0}, []byte{0x8E, 1}},
			{api.Code{N: 4, K: 2, B: 254}, []byte{0, 0, 1, 0}, []byte{0x47, 1}},
			{api.Code{N: 5, K: 1, B: 254}, []byte{0, 3, 0, 0, 0}, []byte{0x8F, 3, 6, 12}},
			{api.Code{N: 255, K: 253, B: 0}, plain.Alone(1, 254), []byte{1, 0x8E}},
			{api.Code{N: 255, K: 254, B: 0}, slices.Repeat([]byte{0xC7}, 255), []byte{0xC7}},
			// Of all 1 the value is 0 at all powers but 1, with which the sum is one of 255 times 1.
			{api.Code{N: 255, K: 250, B: 253}, slices.Repeat([]byte{1}, 255), []byte{0, 0, 1, 0, 0}},
		} {
			if got := synd.Syndromes(f, c.c, c.w); !bytes.Equal(got, c.want) {
				t.Errorf("%s: Syndromes(%v, %X) = %X, not %X", name, c.c, c.w, got, c.want)
			}
		}
	}
}

// checkSyndromes: the values at the roots, all 0 just where the list is a word.
func checkSyndromes(t *testing.T, name string, f *field.Field, c api.Code, w, want []byte) {
	t.Helper()
	got := synd.Syndromes(f, c, w)
	if !bytes.Equal(got, want) || len(got) != c.N-c.K {
		t.Errorf("%s: Syndromes(%v, %X) = %X, not %X", name, c, w, got, want)
	}
	if all0 := len(plain.Strip(got)) == 0; all0 != code.Has(f, c, w) {
		t.Errorf("%s: are Syndromes(%v, %X) all 0? %v", name, c, w, all0)
	}
}

// TestSyndromes: of words, of all 0, of one byte wrong and of many, of codes of many kinds.
func TestSyndromes(t *testing.T) {
	t.Parallel()
	for name, f := range fields() {
		for _, k := range knownCodes() {
			for i, r := range k.lists {
				checkSyndromes(t, name, f, k.c, r.w, r.syndromes)
				if word := len(plain.Strip(r.syndromes)) == 0; i < len(k.words) && !word {
					t.Errorf("of %v, %X is no word", k.c, r.w)
				}
			}
		}
	}
}

// TestSyndromesOfSmallCodes: all codes with words of at most five bytes.
func TestSyndromesOfSmallCodes(t *testing.T) {
	for _, c := range plain.SmallCodes(5) {
		roots := plain.Roots(c)
		for _, w := range [][]byte{plain.FromZeros(roots...), make([]byte, c.N), plain.Mixed(c.B, c.N), plain.Alone(1, c.N-1), {7, 6, 5, 4, 3}} {
			w = plain.Behind(w, c.N)[:c.N]
			want := plain.Values(w, roots)
			for name, f := range fields() {
				checkSyndromes(t, name, f, c, w, want)
			}
		}
	}
}

// TestSyndromesOfAllOfTwoBytes: of all two bytes, alone and ahead of a third one.
func TestSyndromesOfAllOfTwoBytes(t *testing.T) {
	t.Parallel()
	for name, f := range fields() {
		t.Run(name, func(t *testing.T) {
			t.Parallel()
			for _, behind := range [][]byte{nil, {0x5C}} {
				for _, b := range []int{0, 254} {
					c := api.Code{N: 2 + len(behind), K: 1, B: b}
					roots := plain.Roots(c)
					plain.AllPairs(func(x, y byte) {
						w := append([]byte{x, y}, behind...)
						checkSyndromes(t, name, f, c, w, plain.Values(w, roots))
					})
				}
			}
		})
	}
}

// oneWrong is what a byte alone at a place comes to: each root's power of that place, times it.
func oneWrong(k known, at int, b byte) []byte {
	var l []byte
	for j := range k.roots {
		l = append(l, plain.Mul(b, plain.Point((k.c.B+j)*at)))
	}
	return l
}

// TestSyndromesOfOneWrong: a byte that is wrong at each place, whatever the word, tells the same.
func TestSyndromesOfOneWrong(t *testing.T) {
	t.Parallel()
	for name, f := range fields() {
		t.Run(name, func(t *testing.T) {
			t.Parallel()
			for _, k := range knownCodes() {
				for at := range k.c.N {
					b, w := byte(at)|1, k.words[at%len(k.words)]
					got := synd.Syndromes(f, k.c, plain.Added(w, at, b))
					if want := oneWrong(k, at, b); !bytes.Equal(got, want) || bytes.Contains(got, []byte{0}) {
						t.Fatalf("%s: Syndromes of %v with %02X wrong at %d = %X, not %X", name, k.c, b, at, got, want)
					}
				}
			}
		})
	}
}

// TestSyndromesOfManyWrong: they are the sum of what each wrong byte comes to, whatever the word.
func TestSyndromesOfManyWrong(t *testing.T) {
	for name, f := range fields() {
		for _, k := range knownCodes() {
			for i, w := range k.words {
				want := make([]byte, len(k.roots))
				for n := range 1 + i*3 {
					at, b := n*n*13%k.c.N, byte(n*29+1)
					w = plain.Added(w, at, b)
					want = plain.Xored(want, oneWrong(k, at, b))
				}
				checkSyndromes(t, name, f, k.c, w, want)
			}
		}
	}
}

// TestSyndromesOfSums: of a sum they are the sum, of a multiple the multiple, and with a word added they stay.
func TestSyndromesOfSums(t *testing.T) {
	t.Parallel()
	for name, f := range fields() {
		for _, k := range knownCodes() {
			for i, r := range k.lists {
				next, word := k.lists[(i+1)%len(k.lists)], k.words[i%len(k.words)]
				if got := synd.Syndromes(f, k.c, plain.Xored(r.w, next.w)); !bytes.Equal(got, plain.Xored(r.syndromes, next.syndromes)) {
					t.Errorf("%s: Syndromes of %v of the sum of %X and %X = %X", name, k.c, r.w, next.w, got)
				}
				if got := synd.Syndromes(f, k.c, plain.Times(0xE5, r.w)); !bytes.Equal(got, plain.Times(0xE5, r.syndromes)) {
					t.Errorf("%s: Syndromes of %v of E5 times %X = %X", name, k.c, r.w, got)
				}
				if got := synd.Syndromes(f, k.c, plain.Xored(r.w, word)); !bytes.Equal(got, r.syndromes) {
					t.Errorf("%s: Syndromes of %v of the sum of %X and the word %X = %X", name, k.c, r.w, word, got)
				}
			}
		}
	}
}

// checkNone: Syndromes tells nothing.
func checkNone(t *testing.T, name string, f *field.Field, c api.Code, w []byte) {
	t.Helper()
	if got := synd.Syndromes(f, c, w); len(got) != 0 {
		t.Errorf("%s: Syndromes(%v, %d bytes) = %X, not nothing", name, c, len(w), got)
	}
}

// TestSyndromesOfOtherLengths: none, one byte fewer, one more, noughts as well as others, ahead and behind.
func TestSyndromesOfOtherLengths(t *testing.T) {
	for name, f := range fields() {
		for _, k := range knownCodes() {
			for _, w := range plain.OtherLengths(k.c.N, k.c.K, k.c.N-k.c.K) {
				checkNone(t, name, f, k.c, w)
			}
			for _, w := range k.words {
				for _, other := range plain.Resized(w) {
					checkNone(t, name, f, k.c, other)
				}
			}
		}
		for _, c := range plain.SmallCodes(4) {
			for _, w := range plain.OtherLengths(c.N, 2, 3, 4, 5) {
				checkNone(t, name, f, c, w)
			}
		}
	}
}

// TestSyndromesOfCrooked: of a code that is not right nothing is told, of whatever list.
func TestSyndromesOfCrooked(t *testing.T) {
	for name, f := range fields() {
		for _, c := range plain.CrookedCodes() {
			checkNoneOfAny(t, name, f, c)
		}
	}
}

// checkNoneOfAny: nothing is told of any list, also of one as long as the code says, where a list may be so long.
func checkNoneOfAny(t *testing.T, name string, f *field.Field, c api.Code) {
	t.Helper()
	for _, w := range plain.AnyLengths(c) {
		checkNone(t, name, f, c, w)
	}
}
