package encode_test

import (
	"bytes"
	"slices"
	"testing"

	"erratum/api"
	"erratum/code"
	"erratum/encode"
	"erratum/field"
	"erratum/plain"
)

// word is what Encode tells where it tells no error.
func word(t *testing.T, name string, f *field.Field, c api.Code, m []byte) []byte {
	t.Helper()
	w, e := encode.Encode(f, c, m)
	if e != api.OK || len(w) != c.N {
		t.Fatalf("%s: Encode(%v, %X) = %X, %d", name, c, m, w, e)
	}
	return w
}

func TestExample(t *testing.T) {
	for name, f := range fields() {
		if got := word(t, name, f, api.Code{N: 4, K: 2, B: 0}, []byte{1, 0}); !bytes.Equal(got, []byte{2, 3, 1, 0}) {
			t.Errorf("%s: Encode of N 4, K 2, B 0 and 1, 0 = %X, not 2, 3, 1, 0", name, got)
		}
	}
	if got, e := encode.Message(api.Code{N: 4, K: 2, B: 0}, []byte{2, 3, 1, 0}); e != api.OK || !bytes.Equal(got, []byte{1, 0}) {
		t.Errorf("Message of N 4, K 2, B 0 and 2, 3, 1, 0 = %X, %d, not 1, 0", got, e)
	}
}

func TestEncodeKnown(t *testing.T) {
	for name, f := range fields() {
		for _, c := range []struct {
			c       api.Code
			m, want []byte
		}{
			{api.Code{N: 2, K: 1, B: 0}, []byte{0}, []byte{0, 0}},
			{api.Code{N: 2, K: 1, B: 0}, []byte{0x5C}, []byte{0x5C, 0x5C}},
			{api.Code{N: 2, K: 1, B: 1}, []byte{0x80}, []byte{0x1D, 0x80}},
			{api.Code{N: 2, K: 1, B: 254}, []byte{1}, []byte{0x8E, 1}},
			{api.Code{N: 3, K: 2, B: 0}, []byte{5, 9}, []byte{5 ^ 9, 5, 9}},
			{api.Code{N: 3, K: 2, B: 1}, []byte{1, 1}, []byte{2 ^ 4, 1, 1}},
			{api.Code{N: 3, K: 1, B: 0}, []byte{1}, []byte{2, 3, 1}},
			{api.Code{N: 4, K: 1, B: 0}, []byte{1}, []byte{8, 14, 7, 1}},
			{api.Code{N: 4, K: 2, B: 0}, []byte{0, 1}, []byte{6, 7, 0, 1}},
			{api.Code{N: 4, K: 2, B: 0}, []byte{0, 0}, []byte{0, 0, 0, 0}},
			// The text of a printed square, read from its end: the last byte is the greatest power's.
			{api.Code{N: 26, K: 16, B: 0}, []byte{17, 236, 17, 236, 17, 236, 64, 67, 77, 220, 114, 209, 120, 11, 91, 32},
				[]byte{23, 93, 226, 231, 215, 235, 119, 39, 35, 196, 17, 236, 17, 236, 17, 236, 64, 67, 77, 220, 114, 209, 120, 11, 91, 32}},
			// x^255 + 1 has all bytes but 0 as roots; without 1 all coefficients are 1.
			{api.Code{N: 255, K: 1, B: 1}, []byte{0xC7}, slices.Repeat([]byte{0xC7}, 255)},
			// A word at whose one root, 1, all bytes XORed are 0.
			{api.Code{N: 255, K: 254, B: 0}, slices.Repeat([]byte{0xFF}, 254), append([]byte{0}, slices.Repeat([]byte{0xFF}, 254)...)},
		} {
			if got := word(t, name, f, c.c, c.m); !bytes.Equal(got, c.want) {
				t.Errorf("%s: Encode(%v, %X) = %X, not %X", name, c.c, c.m, got, c.want)
			}
		}
	}
}

// checkWord: it is a WORD, ends in the message, is told by the plain way, too, and tells its message again.
func checkWord(t *testing.T, name string, f *field.Field, c api.Code, m, want []byte) {
	t.Helper()
	w := word(t, name, f, c, m)
	if !code.Has(f, c, w) || !bytes.Equal(w[c.N-c.K:], m) || !bytes.Equal(w, want) {
		t.Fatalf("%s: Encode(%v, %X) = %X, not %X", name, c, m, w, want)
	}
	if again, e := encode.Message(c, w); e != api.OK || !bytes.Equal(again, m) {
		t.Fatalf("%s: Message(%v, %X) = %X, %d, not %X", name, c, w, again, e, m)
	}
}

// TestEncodeAllOfOneByte: all messages of one byte, of codes with a few roots and with many.
func TestEncodeAllOfOneByte(t *testing.T) {
	for name, f := range fields() {
		for _, n := range []int{2, 3, 4, 5, 6, 17} {
			for _, b := range []int{0, 1, 100, 253, 254} {
				c := api.Code{N: n, K: 1, B: b}
				one := plain.Word(c, []byte{1})
				for m := range 256 {
					checkWord(t, name, f, c, []byte{byte(m)}, plain.Times(byte(m), one))
				}
			}
		}
	}
}

// TestEncodeAllOfTwoBytes: all messages of two bytes, of codes with one root and with two.
func TestEncodeAllOfTwoBytes(t *testing.T) {
	for name, f := range fields() {
		for _, c := range []api.Code{{N: 3, K: 2, B: 0}, {N: 3, K: 2, B: 254}, {N: 4, K: 2, B: 0}, {N: 4, K: 2, B: 254}} {
			t.Run(name, func(t *testing.T) {
				t.Parallel()
				first, second := plain.Word(c, []byte{1, 0}), plain.Word(c, []byte{0, 1})
				plain.AllPairs(func(a, b byte) {
					checkWord(t, name, f, c, []byte{a, b}, plain.Xored(plain.Times(a, first), plain.Times(b, second)))
				})
			})
		}
	}
}

// TestEncode: messages of many kinds, of codes of many kinds.
func TestEncode(t *testing.T) {
	for name, f := range fields() {
		for _, k := range knownCodes() {
			for i, m := range k.messages {
				checkWord(t, name, f, k.c, m, k.words[i])
			}
		}
	}
}

// TestEncodeOfSmallCodes: all codes with words of at most five bytes.
func TestEncodeOfSmallCodes(t *testing.T) {
	for _, c := range plain.SmallCodes(5) {
		for _, m := range plain.Messages(c) {
			want := plain.Word(c, m)
			for name, f := range fields() {
				checkWord(t, name, f, c, m, want)
			}
		}
	}
}

// TestEncodeOfMultiples: a multiple of the least word, taken by its message alone, is told whole.
func TestEncodeOfMultiples(t *testing.T) {
	for name, f := range fields() {
		for _, k := range knownCodes() {
			for _, p := range k.messages {
				want := plain.Multiple(k.c, p)
				checkWord(t, name, f, k.c, want[k.c.N-k.c.K:], want)
			}
		}
	}
}

// TestEncodeOfAll0: the word is all 0, and that of no other message is.
func TestEncodeOfAll0(t *testing.T) {
	for name, f := range fields() {
		for _, k := range knownCodes() {
			for _, m := range append(slices.Clone(k.messages), make([]byte, k.c.K)) {
				all0 := len(plain.Strip(word(t, name, f, k.c, m))) == 0
				if all0 != (len(plain.Strip(m)) == 0) {
					t.Errorf("%s: is Encode(%v, %X) all 0? %v", name, k.c, m, all0)
				}
			}
		}
	}
}

// others are bytes that a byte is not: all of them where the code is small, else a few.
func others(c api.Code, b byte, at int) []byte {
	if c.N > 20 {
		return []byte{b ^ 1, b ^ 0x80, b ^ 0xFF, b ^ (byte(at) | 2)}
	}
	var l []byte
	for x := range 255 {
		l = append(l, b^byte(x+1))
	}
	return l
}

// TestAnotherByteAhead: with any byte ahead of the message another one it is no WORD.
func TestAnotherByteAhead(t *testing.T) {
	for name, f := range fields() {
		for _, k := range knownCodes() {
			for _, m := range k.messages[:min(4, len(k.messages))] {
				w := word(t, name, f, k.c, m)
				for at := range k.c.N - k.c.K {
					for _, b := range others(k.c, w[at], at) {
						if got := plain.Added(w, at, w[at]^b); code.Has(f, k.c, got) {
							t.Fatalf("%s: %v has %X, which is Encode's word but for the byte %d", name, k.c, got, at)
						}
					}
				}
			}
		}
	}
}

// TestTheOnlyOne: of all two bytes ahead of a message just those that Encode tells make it a WORD.
func TestTheOnlyOne(t *testing.T) {
	for name, f := range fields() {
		for _, c := range []api.Code{{N: 3, K: 1, B: 0}, {N: 4, K: 2, B: 254}, {N: 20, K: 18, B: 7}} {
			m := plain.Mixed(4, c.K)
			want := word(t, name, f, c, m)
			plain.AllPairs(func(a, b byte) {
				w := append([]byte{a, b}, m...)
				if has := code.Has(f, c, w); has != bytes.Equal(w, want) {
					t.Fatalf("%s: Has(%v, %X) is %v, and Encode tells %X", name, c, w, has, want)
				}
			})
		}
	}
}

// TestSumsAndMultiples: words of sums of messages are sums of their words, and words of multiples are multiples.
func TestSumsAndMultiples(t *testing.T) {
	for name, f := range fields() {
		for _, k := range knownCodes() {
			for i, m := range k.messages {
				next := k.messages[(i+1)%len(k.messages)]
				w, v := word(t, name, f, k.c, m), word(t, name, f, k.c, next)
				if got := word(t, name, f, k.c, plain.Xored(m, next)); !bytes.Equal(got, plain.Xored(w, v)) {
					t.Errorf("%s: of %v, Encode of the sum of %X and %X = %X", name, k.c, m, next, got)
				}
				if got := word(t, name, f, k.c, plain.Times(0xE5, m)); !bytes.Equal(got, plain.Times(0xE5, w)) {
					t.Errorf("%s: of %v, Encode of E5 times %X = %X", name, k.c, m, got)
				}
			}
		}
	}
}

// TestUnlikeMessages: their words are unlike at more bytes than there are roots; those of messages that are unlike at one byte may be at just one more.
func TestUnlikeMessages(t *testing.T) {
	for name, f := range fields() {
		for _, k := range knownCodes() {
			var words [][]byte
			for at, m := range k.messages {
				words = append(words, word(t, name, f, k.c, m), word(t, name, f, k.c, plain.Added(m, at%k.c.K, 0x21)))
			}
			for i, w := range words {
				for _, v := range words[:i] {
					if n := len(plain.Apart(w, v)); n > 0 && n <= k.c.N-k.c.K || n == 0 && !bytes.Equal(w[k.c.N-k.c.K:], v[k.c.N-k.c.K:]) {
						t.Errorf("%s: words of %v are unlike at %d bytes alone: %X and %X", name, k.c, n, w, v)
					}
				}
			}
			if n := len(plain.Apart(words[0], words[1])); n > k.c.N-k.c.K+1 {
				t.Errorf("%s: words of %v whose messages are unlike at one byte are unlike at %d", name, k.c, n)
			}
		}
	}
}

// TestAllUnlike: of all messages of two bytes each word but that of all 0 has fewer noughts than K: it is far enough from all 0, and so, since sums are words, are any two.
func TestAllUnlike(t *testing.T) {
	for name, f := range fields() {
		c := api.Code{N: 6, K: 2, B: 254}
		plain.AllPairs(func(a, b byte) {
			w := word(t, name, f, c, []byte{a, b})
			if n := bytes.Count(w, []byte{0}); n >= c.K && (a != 0 || b != 0) {
				t.Errorf("%s: Encode(%v, %02X%02X) = %X has %d noughts", name, c, a, b, w, n)
			}
		})
	}
}

// TestMessage: of words and of whatever other lists of N bytes, the last K bytes.
func TestMessage(t *testing.T) {
	for _, k := range knownCodes() {
		lists := append(slices.Clone(k.words), make([]byte, k.c.N), slices.Repeat([]byte{0xFF}, k.c.N), plain.Mixed(1, k.c.N), plain.Mixed(8, k.c.N))
		for i, w := range k.words {
			lists = append(lists, plain.Added(w, 0, 0x21), plain.Added(w, k.c.N-1, 0x40), plain.Added(w, i*7%k.c.N, 1))
		}
		for _, w := range lists {
			if got, e := encode.Message(k.c, w); e != api.OK || !bytes.Equal(got, w[k.c.N-k.c.K:]) {
				t.Errorf("Message(%v, %X) = %X, %d", k.c, w, got, e)
			}
		}
	}
}

// TestMessageOfSmallCodes: of all codes with words of at most six bytes, no two bytes of a list the same.
func TestMessageOfSmallCodes(t *testing.T) {
	for _, c := range plain.SmallCodes(6) {
		w := []byte{7, 6, 5, 4, 3, 2}[6-c.N:]
		if got, e := encode.Message(c, w); e != api.OK || !bytes.Equal(got, w[c.N-c.K:]) {
			t.Errorf("Message(%v, %X) = %X, %d", c, w, got, e)
		}
	}
}
