package chien_test

import (
	"bytes"
	"math"
	"slices"
	"testing"

	"erratum/chien"
	"erratum/plain"
	"erratum/synd"
)

// checkMend: just this is told; mended twice, it is as it was.
func checkMend(t *testing.T, w []byte, places []int, values, want []byte) {
	t.Helper()
	got := chien.Mend(w, places, values)
	if !bytes.Equal(got, want) {
		t.Fatalf("Mend(%X, %v, %X) = %X, not %X", w, places, values, got, want)
	}
	if again := chien.Mend(got, places, values); !bytes.Equal(again, w) {
		t.Fatalf("Mend(%X, %v, %X), twice, = %X", w, places, values, again)
	}
}

func TestMendKnown(t *testing.T) {
	for _, c := range []struct {
		w            []byte
		places       []int
		values, want []byte
	}{
		{nil, nil, nil, nil},
		{[]byte{}, []int{}, []byte{}, nil},
		{nil, []int{0, 1}, []byte{5, 6}, nil},
		{[]byte{1, 2}, nil, nil, []byte{1, 2}},
		{[]byte{1, 2}, []int{0, 1}, nil, []byte{1, 2}},
		{[]byte{1, 2}, nil, []byte{7, 8}, []byte{1, 2}},
		{[]byte{0, 0, 0}, nil, nil, []byte{0, 0, 0}},
		{[]byte{2, 7, 1, 0}, []int{1}, []byte{4}, []byte{2, 3, 1, 0}},
		{[]byte{1, 2}, []int{1, 5}, []byte{3, 1}, []byte{1, 1}},
		{[]byte{1, 2}, []int{5, 1}, []byte{3, 1}, []byte{1, 3}}, // The value of what is no place counts for nothing, not for the next one.
		{[]byte{1, 2, 3}, []int{2, 0}, []byte{3, 1}, []byte{0, 2, 0}},
		{[]byte{1, 2, 3}, []int{0, 1, 2}, []byte{0, 0, 0}, []byte{1, 2, 3}},
		{[]byte{1, 2, 3}, []int{0, 1, 2}, []byte{4}, []byte{5, 2, 3}},
		{[]byte{1, 2, 3}, []int{2}, []byte{4, 5, 6}, []byte{1, 2, 7}},
		{[]byte{1, 2, 3}, []int{1, 1}, []byte{4, 8}, []byte{1, 14, 3}},
		{[]byte{1, 2, 3}, []int{1, 1}, []byte{4, 4}, []byte{1, 2, 3}},
		{[]byte{1, 2, 3}, []int{1, 1, 1}, []byte{4, 4, 4}, []byte{1, 6, 3}},
		{[]byte{1, 2, 3}, []int{0, 2, 0}, []byte{16, 32, 64}, []byte{0x51, 2, 0x23}},
		{[]byte{1, 2, 3}, []int{-1, 3, 4, -3, 255, 256, -256}, []byte{1, 2, 3, 4, 5, 6, 7}, []byte{1, 2, 3}},
		{[]byte{1, 2, 3}, []int{math.MinInt, 0, math.MaxInt, 2, math.MinInt + 1}, []byte{1, 2, 3, 4, 5}, []byte{3, 2, 7}},
		{[]byte{1}, []int{1 << 32, 1 << 31, -1 << 32, 0}, []byte{1, 2, 4, 8}, []byte{9}},
		{[]byte{0xFF}, []int{0}, []byte{0xFF}, []byte{0}},
	} {
		checkMend(t, c.w, c.places, c.values, c.want)
	}
}

// TestMendAllShort: short words, at all places of them and round them, by values that are more, as many and fewer.
func TestMendAllShort(t *testing.T) {
	t.Parallel()
	for _, w := range [][]byte{nil, {0}, {7}, {1, 2}, {9, 0, 0}} {
		for _, places := range plain.AllShort(3, -1, 0, 1, 2, 3) {
			for _, values := range plain.AllShort(4, byte(0), 1, 0x86) {
				checkMend(t, w, places, values, mendPlain(w, places, values))
			}
		}
	}
}

// TestMendAnyPlaces: words of many lengths, longer than any code's, too, and whatever places.
func TestMendAnyPlaces(t *testing.T) {
	t.Parallel()
	for i, w := range append(plain.Polys(), plain.Mixed(7, 5000)) {
		for j, places := range slices.Concat(plain.AnyPlaces(), [][]int{plain.Around(len(w)), plain.Around(255), plain.MixedPlaces(len(w)+1, i)}) {
			for _, long := range []int{0, len(places) / 2, len(places) - 1, len(places), len(places) + 3} {
				values := plain.Mixed(i+j, max(0, long))
				checkMend(t, w, places, values, mendPlain(w, places, values))
			}
		}
	}
}

// TestMendEachPlace: at each place of a word, and right round it, alone.
func TestMendEachPlace(t *testing.T) {
	for _, long := range []int{1, 2, 63, 64, 65, 255, 256, 300} {
		w := plain.Mixed(long, long)
		for i := range long {
			checkMend(t, w, []int{i}, []byte{byte(i) | 1}, plain.Added(w, i, byte(i)|1))
		}
		for _, i := range plain.Around(long) {
			if i < 0 || i >= long {
				checkMend(t, w, []int{i}, []byte{0x55}, w)
			}
		}
	}
}

// TestMendWrongs: what came, with its wrong bytes mended, is the word.
func TestMendWrongs(t *testing.T) {
	for _, k := range knownWrongs() {
		checkMend(t, k.r, k.places, k.values, k.w)
		checkMend(t, k.w, k.places, k.values, k.r)
	}
}

// TestMended: by a word's syndromes and the locator of what is wrong in it, all calls together tell the word again.
func TestMended(t *testing.T) {
	t.Parallel()
	for name, f := range fields() {
		for _, k := range knownWrongs() {
			s, locator := synd.Syndromes(f, k.c, k.r), synd.Locator(f, k.places)
			places := chien.Places(f, k.c, locator)
			values, ok := chien.Values(f, k.c, chien.Evaluator(f, s, locator), locator, places)
			if !ok || !slices.Equal(places, plain.Apart(k.r, k.w)) {
				t.Fatalf("%s: %v: %X is told to be wrong at %v, %v, by %X", name, k.c, k.r, places, ok, values)
			}
			checkMend(t, k.r, places, values, k.w)
		}
	}
}
