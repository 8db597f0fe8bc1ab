package code_test

import (
	"bytes"
	"slices"
	"sync"
	"testing"

	"erratum/api"
	"erratum/code"
	"erratum/field"
	"erratum/plain"
)

// checkNothing: all calls that ask a field tell nothing of a code, false, whatever the word is.
func checkNothing(t *testing.T, name string, f *field.Field, c api.Code) {
	t.Helper()
	if got := code.Roots(f, c); len(got) != 0 {
		t.Errorf("%s: Roots(%v) = %X", name, c, got)
	}
	if got := code.Generator(f, c); len(got) != 0 {
		t.Errorf("%s: Generator(%v) = %X", name, c, got)
	}
	if got := code.Parity(f, c); !plain.NoMatrix(got) {
		t.Errorf("%s: Parity(%v) = %v", name, c, got)
	}
	for _, long := range []int{0, 1, 2, 3, 4, 255, 256, 300, c.N, c.K, c.N - c.K} {
		if long < 0 || long > 1000 {
			continue
		}
		for _, w := range [][]byte{make([]byte, long), slices.Repeat([]byte{1}, long), plain.Mixed(1, long)} {
			if code.Has(f, c, w) {
				t.Errorf("%s: Has(%v, %X)", name, c, w)
			}
		}
	}
}

func TestCrooked(t *testing.T) {
	for _, c := range plain.CrookedCodes() {
		if got := code.Space(c); got != 0 {
			t.Errorf("Space(%v) = %d", c, got)
		}
		for name, f := range fields() {
			checkNothing(t, name, f, c)
		}
	}
}

// TestNilField: nothing is told, 0, false, also of all 0, and of the power 0; Right and Space ask none.
func TestNilField(t *testing.T) {
	for _, k := range knownCodes() {
		checkNothing(t, "nil", nil, k.c)
		for _, w := range k.words {
			if code.Has(nil, k.c, w) {
				t.Errorf("Has by nil of %v and %X", k.c, w)
			}
		}
	}
	for _, c := range plain.CrookedCodes() {
		checkNothing(t, "nil", nil, c)
	}
	for _, i := range []int{-256, -255, -1, 0, 1, 2, 254, 255, 256} {
		if got := code.Point(nil, i); got != 0 {
			t.Errorf("Point by nil of %d = %02X", i, got)
		}
	}
}

// told are all bytes that are told of a code and of some powers.
func told(f *field.Field, c api.Code) map[string][]byte {
	return map[string][]byte{
		"Roots":     code.Roots(f, c),
		"Generator": code.Generator(f, c),
		"Parity":    code.Parity(f, c).Cells,
		"Point":     {code.Point(f, c.B), code.Point(f, -c.N), code.Point(f, c.N*c.K)},
	}
}

// TestToldIsNew: what is told may be written to its capacity's end; what was told beside it, and what is told again, stays.
func TestToldIsNew(t *testing.T) {
	for name, f := range fields() {
		for _, c := range plain.Codes() {
			first, second := told(f, c), told(f, c)
			want := plain.Copied(first)
			for _, l := range second {
				plain.Spoil(l)
			}
			if call, same := plain.Alike(want, first); !same {
				t.Errorf("%s: %s of %v shares memory with what was told before", name, call, c)
			}
			if call, same := plain.Alike(want, told(f, c)); !same {
				t.Errorf("%s: %s of %v is another one, told again", name, call, c)
			}
			for call, l := range first {
				plain.Spoil(l)
				want[call] = slices.Clone(l)
				if other, same := plain.Alike(want, first); !same {
					t.Errorf("%s: %s and %s of %v share memory", name, call, other, c)
				}
			}
		}
	}
}

// TestWordsStay: what was handed in is as it was, and so is what lies behind its length, which is not read.
func TestWordsStay(t *testing.T) {
	for name, f := range fields() {
		for _, k := range knownCodes() {
			for _, w := range lists(k) {
				whole, inner := plain.Framed(w)
				was := slices.Clone(whole)
				if code.Has(f, k.c, inner) != plain.Has(k.c, w) {
					t.Errorf("%s: Has(%v, %X) hangs on what lies behind", name, k.c, w)
				}
				if !bytes.Equal(whole, was) {
					t.Errorf("%s: Has(%v, %X) changed it", name, k.c, w)
				}
			}
		}
	}
}

// TestNothingBehindIsRead: a word that is cut short is none, though what it lacks lies behind its length.
func TestNothingBehindIsRead(t *testing.T) {
	for name, f := range fields() {
		for _, k := range knownCodes() {
			for _, w := range append(slices.Clone(k.words), make([]byte, k.c.N)) {
				for _, long := range []int{0, 1, k.c.N / 2, k.c.N - 1} {
					if long < k.c.N && code.Has(f, k.c, w[:long]) {
						t.Errorf("%s: %v has %X, cut at %d", name, k.c, w, long)
					}
				}
			}
		}
	}
}

// TestSeveralAtATime: many ask by one field; run with -race it tells more.
func TestSeveralAtATime(t *testing.T) {
	k := knownCodes()[len(knownCodes())-1]
	want := told(field.Of(api.Shift), k.c)
	for name, f := range fields() {
		var all sync.WaitGroup
		wrong := make([]bool, 8)
		for who := range wrong {
			all.Go(func() {
				_, same := plain.Alike(want, told(f, k.c))
				wrong[who] = !same || !code.Has(f, k.c, k.words[who%len(k.words)])
			})
		}
		all.Wait()
		if slices.Contains(wrong, true) {
			t.Errorf("%s: several at a time were told otherwise", name)
		}
	}
}
