package chien_test

import (
	"bytes"
	"math"
	"slices"
	"testing"

	"erratum/api"
	"erratum/chien"
	"erratum/field"
	"erratum/plain"
)

// checkValues: just these are told, and true.
func checkValues(t *testing.T, name string, f *field.Field, c api.Code, evaluator, locator []byte, places []int, want []byte) {
	t.Helper()
	if got, ok := chien.Values(f, c, evaluator, locator, places); !ok || !bytes.Equal(got, want) {
		t.Fatalf("%s: Values(%v, %X, %X, %v) = %X, %v, not %X", name, c, evaluator, locator, places, got, ok, want)
	}
}

// checkNoValues: nothing, false.
func checkNoValues(t *testing.T, name string, f *field.Field, c api.Code, evaluator, locator []byte, places []int) {
	t.Helper()
	if got, ok := chien.Values(f, c, evaluator, locator, places); ok || len(got) > 0 {
		t.Fatalf("%s: Values(%v, %X, %X, %v) = %X, %v, not nothing", name, c, evaluator, locator, places, got, ok)
	}
}

// checkWords: what the chapter's words tell; it says whether that is something.
func checkWords(t *testing.T, name string, f *field.Field, c api.Code, evaluator, locator []byte, places []int) bool {
	t.Helper()
	want, ok := valuesPlain(c, evaluator, locator, places)
	if ok {
		checkValues(t, name, f, c, evaluator, locator, places, want)
	} else {
		checkNoValues(t, name, f, c, evaluator, locator, places)
	}
	return ok
}

// withB is a code of four bytes.
func withB(b int) api.Code { return api.Code{N: 4, K: 2, B: b} }

func TestValuesKnown(t *testing.T) {
	one, noughtFirst := []byte{1, 2}, []byte{0, 1, 0, 1} // The derivative of the second one, 1 + x^2, is 0 at 1 alone.
	for name, f := range fields() {
		for _, c := range []struct {
			c                  api.Code
			evaluator, locator []byte
			places             []int
			want               []byte
		}{
			{withB(0), []byte{4}, one, []int{1}, []byte{4}}, // Of 2, 7, 1, 0, in which 7 is wrong by 4.
			{withB(1), []byte{4}, one, []int{1}, []byte{2}},
			{withB(2), []byte{4}, one, []int{1}, []byte{1}},
			{withB(3), []byte{4}, one, []int{1}, []byte{0x8E}},
			{withB(254), []byte{4}, one, []int{1}, []byte{8}},
			{withB(0), []byte{4, 4}, []byte{1, 3, 2}, []int{0, 1}, []byte{0, 4}}, // The place 0 is right.
			{withB(0), []byte{4, 4}, []byte{1, 3, 2}, []int{1, 0}, []byte{4, 0}},
			{withB(0), []byte{4, 4}, []byte{1, 3, 2}, []int{1}, []byte{4}},
			{withB(0), []byte{4}, one, []int{0}, []byte{2}}, // It may be asked where the locator is not 0.
			{withB(0), []byte{4}, one, []int{2, 3, 0}, []byte{8, 16, 2}},
			{withB(0), []byte{4}, one, []int{4, 255, 256, -1, -254}, []byte{32, 2, 4, 1, 4}},
			{withB(0), []byte{4}, one, []int{math.MaxInt, math.MinInt}, []byte{0x85, 0x85}}, // Of both the point is 2 to the power 127.
			{withB(254), []byte{4}, one, []int{math.MaxInt, math.MinInt}, []byte{1, 1}},     // Of its power 2 it is 8E.
			{withB(0), nil, one, []int{1, 2}, []byte{0, 0}},
			{withB(0), []byte{0, 0, 0}, one, []int{1}, []byte{0}},
			{withB(0), []byte{4, 0}, []byte{1, 2, 0, 0}, []int{1, 1, 1}, []byte{4, 4, 4}},
			{withB(1), []byte{0, 1}, []byte{0, 1}, []int{0, 1, 2}, []byte{1, 0x8E, 0x47}}, // What is told of x are the inverses.
			{withB(1), []byte{1}, noughtFirst, []int{254}, []byte{0xA7}},                  // 5 A7 is 1.
			{withB(0), []byte{4}, nil, nil, nil},
			{withB(0), nil, nil, []int{}, nil},
			{withB(254), []byte{1, 2, 3}, []byte{1, 0, 1}, nil, nil},
		} {
			checkValues(t, name, f, c.c, c.evaluator, c.locator, c.places, c.want)
			checkWords(t, name, f, c.c, c.evaluator, c.locator, c.places)
		}
		for _, c := range []struct {
			locator []byte
			places  []int
		}{
			{nil, []int{1}}, {[]byte{0, 0}, []int{0}}, {[]byte{1}, []int{0}}, {[]byte{1, 0, 0}, []int{0, 1, 2}}, {[]byte{1, 0, 4}, []int{1}}, {[]byte{1, 0, 4}, []int{3}}, {[]byte{5, 0, 7, 0, 9}, []int{-1}},
			{noughtFirst, []int{0}}, {noughtFirst, []int{255}}, {noughtFirst, []int{-255}}, {noughtFirst, []int{0, 1, 2}}, {noughtFirst, []int{1, 0, 2}}, {noughtFirst, []int{1, 2, 0}}, {noughtFirst, []int{1, 2, 510}},
		} {
			checkNoValues(t, name, f, withB(0), []byte{4}, c.locator, c.places)
			checkNoValues(t, name, f, withB(254), nil, c.locator, c.places)
			checkValues(t, name, f, withB(0), []byte{4}, c.locator, nil, nil)
		}
	}
}

// sortedBy are places in another order, and the values beside them.
func sortedBy(places []int, values []byte, order func(a, b int) int) ([]int, []byte) {
	sorted := slices.SortedFunc(slices.Values(places), order)
	var beside []byte
	for _, i := range sorted {
		beside = append(beside, values[slices.Index(places, i)])
	}
	return sorted, beside
}

// TestValuesOfWrong: by how much bytes are wrong at known places, as many as there are roots and fewer, in whatever order they are asked for; noughts behind, and a byte by which both are multiplied, change nothing.
func TestValuesOfWrong(t *testing.T) {
	t.Parallel()
	for n, k := range knownWrongs() {
		rising, risingValues := sortedBy(k.places, k.values, func(a, b int) int { return a - b })
		falling, fallingValues := sortedBy(k.places, k.values, func(a, b int) int { return b - a })
		half, b := len(k.places)/2, byte(n%255)+1
		for name, f := range fields() {
			checkValues(t, name, f, k.c, k.evaluator, k.locator, k.places, k.values)
			checkValues(t, name, f, k.c, plain.Behind(k.evaluator, n%7), plain.Behind(k.locator, 1+n%5), rising, risingValues)
			checkValues(t, name, f, k.c, plain.Scaled(b, k.evaluator), plain.Scaled(b, k.locator), falling, fallingValues)
			checkValues(t, name, f, k.c, k.evaluator, k.locator, k.places[:half], k.values[:half])
			checkValues(t, name, f, k.c, k.evaluator, k.locator, k.places[half:], k.values[half:])
		}
	}
}

// TestValuesOfRight: of more places than are wrong those that are right are told 0.
func TestValuesOfRight(t *testing.T) {
	t.Parallel()
	for _, k := range knownWrongs() {
		for _, few := range []int{0, 1, len(k.places) / 3, len(k.places) - 1} {
			if few < 0 || few >= len(k.places) {
				continue
			}
			fewer := knownOf(k.c, k.w, mendPlain(k.w, k.places[:few], k.values), k.places)
			if want := plain.Behind(k.values[:few], len(k.places)-few); !bytes.Equal(fewer.values, want) {
				t.Fatalf("%v: %X are wrong, not %X", k.c, fewer.values, want)
			}
			for name, f := range fields() {
				checkValues(t, name, f, k.c, fewer.evaluator, k.locator, k.places, fewer.values)
			}
		}
	}
}

// TestValuesOfEachB: a word's bytes are wrong by the same, whatever B is.
func TestValuesOfEachB(t *testing.T) {
	t.Parallel()
	for b := range 255 {
		c := api.Code{N: 20, K: 13, B: b}
		w := plain.Multiple(c, plain.Mixed(b, 13))
		for n := range 8 {
			k := knownOf(c, w, plain.Through(w, n, 0, b+n).R, plain.MixedPlaces(20, b+n)[:n])
			for name, f := range fields() {
				checkValues(t, name, f, c, k.evaluator, k.locator, k.places, k.values)
			}
		}
	}
}

// TestValuesOfAnyPlaces: places of the code or not, as far off as an int is, and more than once; of some nothing is told.
func TestValuesOfAnyPlaces(t *testing.T) {
	t.Parallel()
	told, not := 0, 0
	for i, c := range codes() {
		polys := plain.Polys()
		for n, p := range places() {
			evaluator, locator := polys[(i+n)%len(polys)], polys[(5*i+3*n)%len(polys)]
			if n%2 == 0 {
				locator = plain.Locator(p)
			}
			for name, f := range fields() {
				if checkWords(t, name, f, c, evaluator, locator, p) {
					told++
				} else {
					not++
				}
			}
		}
	}
	if told < 300 || not < 300 {
		t.Errorf("of %d something is told, of %d nothing", told, not)
	}
}

// TestValuesComeAgain: a place has the values of the one that is 255 below or above, however far that goes on.
func TestValuesComeAgain(t *testing.T) {
	t.Parallel()
	for n, k := range knownWrongs() {
		var far []int
		for m, i := range k.places {
			switch (m + n) % 4 {
			case 0:
				far = append(far, i+255)
			case 1:
				far = append(far, i-255)
			case 2:
				far = append(far, i+255*(math.MaxInt/255-1))
			case 3:
				far = append(far, i-255*(math.MaxInt/255))
			}
		}
		for name, f := range fields() {
			checkValues(t, name, f, k.c, k.evaluator, k.locator, far, k.values)
		}
	}
}

// TestValuesOfTwice: a place that is asked twice is told twice; one that stands twice in the locator is not told, nor is what is asked beside it.
func TestValuesOfTwice(t *testing.T) {
	t.Parallel()
	for _, k := range knownWrongs() {
		if len(k.places) == 0 {
			continue
		}
		last := len(k.places) - 1
		twice := plain.Product(k.locator, []byte{1, plain.Point(k.places[last])})
		for name, f := range fields() {
			checkValues(t, name, f, k.c, k.evaluator, k.locator, slices.Concat(k.places, k.places), slices.Concat(k.values, k.values))
			checkValues(t, name, f, k.c, k.evaluator, k.locator, append(slices.Clone(k.places), k.places[0]), append(slices.Clone(k.values), k.values[0]))
			checkNoValues(t, name, f, k.c, k.evaluator, twice, k.places)
			checkNoValues(t, name, f, k.c, k.evaluator, twice, k.places[last:])
			checkWords(t, name, f, k.c, k.evaluator, twice, k.places[:last])
		}
	}
}

// TestValuesOfAllShort: evaluators and locators that are short, of places that are few.
func TestValuesOfAllShort(t *testing.T) {
	t.Parallel()
	for i, evaluator := range plain.AllShort(3, byte(0), 1, 0x8E) {
		for j, locator := range plain.AllShort(4, byte(0), 1, 2) {
			c := api.Code{N: 5, K: 2, B: (i + j*7) % 255}
			for n, p := range [][]int{nil, {0}, {1}, {4, 3}, {254, 0}, {2, 2, 1}} {
				if (i+j+n)%2 == 0 {
					for name, f := range fields() {
						checkWords(t, name, f, c, evaluator, locator, p)
					}
				}
			}
		}
	}
}

// TestValuesHangOnBAlone: how long words and messages are changes nothing.
func TestValuesHangOnBAlone(t *testing.T) {
	t.Parallel()
	evaluator, locator, p := plain.Mixed(3, 6), plain.Locator([]int{0, 3, 250}), []int{3, 250, 0, -7, 99}
	for _, b := range []int{0, 1, 2, 100, 254} {
		want, _ := valuesPlain(withB(b), evaluator, locator, p)
		for name, f := range fields() {
			for n := 2; n <= api.MaxLen; n++ {
				checkValues(t, name, f, api.Code{N: n, K: 1, B: b}, evaluator, locator, p, want)
				checkValues(t, name, f, api.Code{N: n, K: n - 1, B: b}, evaluator, locator, p, want)
			}
		}
	}
}

// TestValuesOfCrooked: of a code that is not right nothing is told, false, also of no places.
func TestValuesOfCrooked(t *testing.T) {
	t.Parallel()
	for name, f := range fields() {
		for _, c := range plain.CrookedCodes() {
			for _, p := range [][]int{nil, {}, {1}, {0, 1}, {1, 1, -1}, {math.MinInt, math.MaxInt}} {
				checkNoValues(t, name, f, c, []byte{4}, []byte{1, 2}, p)
				checkNoValues(t, name, f, c, nil, []byte{1, 2}, p)
				checkNoValues(t, name, f, c, []byte{4}, nil, p)
			}
		}
	}
}

// TestValuesByNone: a nil Field tells nothing, false, also of no places.
func TestValuesByNone(t *testing.T) {
	for _, k := range knownWrongs() {
		checkNoValues(t, "nil", nil, k.c, k.evaluator, k.locator, k.places)
		checkNoValues(t, "nil", nil, k.c, k.evaluator, k.locator, nil)
	}
	for i, c := range append(codes(), plain.CrookedCodes()...) {
		for _, p := range places() {
			checkNoValues(t, "nil", nil, c, plain.Mixed(i, i%9), []byte{1, 2}, p)
		}
	}
}
