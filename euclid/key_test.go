package euclid_test

import (
	"bytes"
	"slices"
	"testing"

	"erratum/api"
	"erratum/euclid"
	"erratum/field"
	"erratum/plain"
)

// checkKey: just these are told, and true.
func checkKey(t *testing.T, name string, f *field.Field, s []byte, erased int, locator, evaluator []byte) {
	t.Helper()
	l, e, ok := euclid.Key(f, s, erased)
	if !ok || !bytes.Equal(l, locator) || !bytes.Equal(e, evaluator) {
		t.Fatalf("%s: Key(%X, %d) = %X, %X, %v, not %X, %X", name, s, erased, l, e, ok, locator, evaluator)
	}
}

// checkNoKey: nothing, nothing, false.
func checkNoKey(t *testing.T, name string, f *field.Field, s []byte, erased int) {
	t.Helper()
	if l, e, ok := euclid.Key(f, s, erased); ok || len(l) > 0 || len(e) > 0 {
		t.Fatalf("%s: Key(%X, %d) = %X, %X, %v", name, s, erased, l, e, ok)
	}
}

// checkKeyHolds: what is told is what the chapter's words tell; the locator begins with 1, the evaluator is the product cut, and both are normal and short.
func checkKeyHolds(t *testing.T, name string, f *field.Field, s []byte, erased int) bool {
	t.Helper()
	locator, evaluator, ok := keyPlain(s, erased)
	if !ok {
		checkNoKey(t, name, f, s, erased)
		return false
	}
	checkKey(t, name, f, s, erased, locator, evaluator)
	l, e, _ := euclid.Key(f, s, erased)
	if l[0] != 1 || !bytes.Equal(e, plain.Cut(plain.Product(l, s), len(s))) {
		t.Fatalf("%s: Key(%X, %d) = %X, %X: that is not 1 first, or not the product cut", name, s, erased, l, e)
	}
	if !plain.Normal(l) || degree(e) >= halfPlain(s, erased) || degree(l) > len(s)-halfPlain(s, erased) {
		t.Fatalf("%s: Key(%X, %d) = %X, %X is not normal, or not short", name, s, erased, l, e)
	}
	return true
}

func TestExample(t *testing.T) {
	for name, f := range fields() {
		checkKey(t, name, f, []byte{1, 2, 4, 8}, 0, []byte{1, 2}, []byte{1})
	}
}

func TestKeyKnown(t *testing.T) {
	for name, f := range fields() {
		for _, c := range []struct {
			s                  []byte
			erased             int
			locator, evaluator []byte
		}{
			{nil, 0, []byte{1}, nil},
			{[]byte{}, 0, []byte{1}, nil},
			{[]byte{0}, 0, []byte{1}, nil},
			{[]byte{0}, 1, []byte{1}, nil},
			{make([]byte, 9), 0, []byte{1}, nil},
			{make([]byte, 9), 9, []byte{1}, nil},
			{make([]byte, 2000), 1000, []byte{1}, nil},
			{[]byte{7}, 0, []byte{1}, []byte{7}},
			{[]byte{7}, 1, []byte{1}, []byte{7}},
			{[]byte{7, 0, 0, 0}, 0, []byte{1}, []byte{7}},
			{[]byte{7, 9, 0, 0}, 0, []byte{1}, []byte{7, 9}},
			{[]byte{5, 5}, 0, []byte{1, 1}, []byte{5}},
			{[]byte{5, 5}, 1, []byte{1}, []byte{5, 5}},
			{[]byte{5, 5, 5}, 1, []byte{1, 1}, []byte{5}},
			{[]byte{1, 2, 4, 8}, 1, []byte{1, 2}, []byte{1}},
			{[]byte{1, 2, 4, 8}, 2, []byte{1, 2}, []byte{1}},
			{[]byte{1, 2, 4, 8}, 3, []byte{1}, []byte{1, 2, 4, 8}},
			{[]byte{1, 2, 4, 8}, 4, []byte{1}, []byte{1, 2, 4, 8}},
			{[]byte{1, 2, 4, 8, 16}, 0, []byte{1, 2}, []byte{1}},
			{[]byte{9, 2, 4, 8}, 1, []byte{1, 2}, []byte{9, 16}}, // What is ahead of the last two is not made; 2 and 2 times 9.
			{[]byte{0, 0, 1, 2, 4, 8}, 2, []byte{1, 2}, []byte{0, 0, 1}},
			{[]byte{0, 1}, 1, []byte{1}, []byte{0, 1}},
			{[]byte{0, 1}, 2, []byte{1}, []byte{0, 1}},
			{[]byte{0, 1, 0, 0}, 0, []byte{1}, []byte{0, 1}},
			{[]byte{0, 5, 0, 5}, 0, []byte{1, 0, 1}, []byte{0, 5}},
			{[]byte{1, 1, 0, 1}, 0, []byte{1, 1, 1}, []byte{1}},
			{[]byte{3, 5, 9, 17}, 0, []byte{1, 3, 2}, []byte{3}}, // Two powers, of 1 and of 2, together.
			{[]byte{6, 10, 18, 34}, 0, []byte{1, 3, 2}, []byte{6}},
			{[]byte{3, 5, 9, 17}, 1, []byte{1, 0xB8}, []byte{3, 0xD0, 0x6B}},
		} {
			checkKey(t, name, f, c.s, c.erased, c.locator, c.evaluator)
			checkKeyHolds(t, name, f, c.s, c.erased)
		}
		for _, c := range []struct {
			s      []byte
			erased int
		}{
			{nil, 1}, {nil, -1}, {[]byte{}, 2}, {[]byte{0}, -1}, {[]byte{0}, 2}, {[]byte{1}, 2}, {[]byte{1, 2, 4, 8}, -1}, {[]byte{1, 2, 4, 8}, 5}, {[]byte{1, 2, 4, 8}, 255},
			{[]byte{0, 1}, 0}, {[]byte{0, 0, 0, 9}, 0}, {[]byte{0, 0, 0, 9}, 1}, {[]byte{0, 0, 0, 9}, 2}, {[]byte{0, 0, 9, 0}, 0}, {[]byte{0, 0, 1, 2}, 0},
		} {
			checkNoKey(t, name, f, c.s, c.erased)
		}
	}
}

// TestKeyOfAllShort: all short lists, with each erased round how many bytes they have, held against the chapter's words.
func TestKeyOfAllShort(t *testing.T) {
	t.Parallel()
	for _, s := range slices.Concat(plain.AllShort(8, byte(0), 1), plain.AllShort(5, byte(0), 1, 2), plain.AllShort(3, byte(0), 1, 2, 3, 0x1D, 0x8E, 0xFF)) {
		for erased := -2; erased <= len(s)+2; erased++ {
			for name, f := range fields() {
				checkKeyHolds(t, name, f, s, erased)
			}
		}
	}
}

// TestKeyByTrying: all locators that are short enough are tried: if there is one whose product, cut, is short enough, too, the one of the least degree is told; if there is none, nothing.
func TestKeyByTrying(t *testing.T) {
	t.Parallel()
	for _, s := range append(plain.AllShort(4, byte(0), 1, 2, 0x8E), []byte{3, 5, 9, 17, 33}, []byte{0, 3, 5, 9, 17}, []byte{0, 0, 0, 0, 4}, []byte{1, 2, 4, 9, 17}) {
		for erased := range len(s) + 1 {
			half := halfPlain(s, erased)
			locator := shortest(s, len(s)-half, half)
			for name, f := range fields() {
				if locator == nil {
					checkNoKey(t, name, f, s, erased)
				} else {
					checkKey(t, name, f, s, erased, locator, plain.Cut(plain.Product(locator, s), len(s)))
				}
			}
		}
	}
}

// shortest is what begins with 1, is of the least degree, up to most, and makes the product with s, cut, of a degree below half; nothing, if none does.
func shortest(s []byte, most, half int) []byte {
	for d := range most + 1 {
		l := plain.Behind([]byte{1}, d)
		for at := 0; at <= d; {
			if isShort(l, s, half) {
				return plain.Strip(l)
			}
			for at = 1; at <= d; at++ {
				if l[at]++; l[at] != 0 {
					break
				}
			}
		}
	}
	return nil
}

// isShort says whether the product, cut, has a degree below half.
func isShort(l, s []byte, half int) bool {
	for i := half; i < len(s); i++ {
		var sum byte
		for j, a := range l[:min(len(l), i+1)] {
			sum ^= plain.Mul(a, s[i-j])
		}
		if sum != 0 {
			return false
		}
	}
	return true
}

// TestKeyOfRegisters: what a register makes behind a start that no shorter one makes tells it, as many bytes later as are erased, if the list is long enough.
func TestKeyOfRegisters(t *testing.T) {
	t.Parallel()
	for name, f := range fields() {
		for n := range 16 {
			for i, l := range plain.Registers(n) {
				for _, erased := range []int{0, 1, 2, 3, 8} {
					for _, more := range []int{0, 1, 2, 5} {
						start := plain.LastOne(n+erased, byte(i+1))
						checkKey(t, name, f, plain.Made(l, start, 2*n+erased+more), erased, l, plain.Strip(start))
					}
				}
			}
		}
	}
}

// TestKeyOfAnyStart: the same of other starts; where a shorter one makes it, too, that is told.
func TestKeyOfAnyStart(t *testing.T) {
	t.Parallel()
	for name, f := range fields() {
		same := 0
		for n := range 14 {
			for i, l := range plain.Registers(n) {
				for _, erased := range []int{0, 1, 4, 7} {
					s := plain.Made(l, plain.Mixed(n+i, n+erased), 2*n+erased+i%3)
					checkKeyHolds(t, name, f, s, erased)
					cut := plain.Cut(plain.Product(l, s), len(s))
					common := plain.Gcd(l, cut)
					common = plain.Scaled(plain.Inverse(common[0]), common)
					locator, _ := plain.Divided(l, common)
					evaluator, _ := plain.Divided(cut, common)
					checkKey(t, name, f, s, erased, locator, evaluator)
					if len(common) == 1 {
						same++
					}
				}
			}
		}
		if same < 100 {
			t.Errorf("%s: only %d starts told the register", name, same)
		}
	}
}

// TestKeyOfPlaces: powers of places, some of them taken off as erased ones, tell the locator of those that are left.
func TestKeyOfPlaces(t *testing.T) {
	t.Parallel()
	for name, f := range fields() {
		for _, c := range []struct{ wrong, erased, more int }{{0, 0, 0}, {0, 0, 9}, {1, 0, 0}, {1, 0, 1}, {0, 1, 0}, {0, 6, 0}, {1, 1, 0}, {2, 3, 0}, {3, 2, 1}, {5, 6, 2}, {8, 1, 0}, {16, 0, 0}, {16, 30, 3}, {40, 7, 0}, {127, 0, 0}, {100, 54, 0}} {
			var places []int
			var values []byte
			for k := range c.wrong + c.erased {
				places = append(places, (k*101+c.erased)%255)
				values = append(values, byte(k*7%255)+1)
			}
			long := 2*c.wrong + c.erased + c.more
			s := plain.Cut(plain.Product(plain.Locator(places[c.wrong:]), plain.Powers(places, values, long)), long)
			s = plain.Behind(s, long-len(s))
			locator := plain.Locator(places[:c.wrong])
			checkKey(t, name, f, s, c.erased, locator, plain.Cut(plain.Product(locator, s), long))
		}
	}
}

// TestKeyOfLists: lists of many kinds, with each erased that they may have; of some nothing is told.
func TestKeyOfLists(t *testing.T) {
	t.Parallel()
	for name, f := range fields() {
		told, not := 0, 0
		for _, s := range lists() {
			for erased := range len(s) + 1 {
				if checkKeyHolds(t, name, f, s, erased) {
					told++
				} else {
					not++
				}
			}
		}
		if told < 100 || not < 100 {
			t.Errorf("%s: of %d something is told, of %d nothing", name, told, not)
		}
	}
}

// TestKeyOfEachErased: below 0 and above how many bytes there are nothing is told, as far off as an int is.
func TestKeyOfEachErased(t *testing.T) {
	t.Parallel()
	for name, f := range fields() {
		for _, s := range append(lists(), make([]byte, 255), plain.Mixed(2, 30)) {
			for _, erased := range plain.Around(len(s)) {
				if erased < 0 || erased > len(s) {
					checkNoKey(t, name, f, s, erased)
				} else {
					checkKeyHolds(t, name, f, s, erased)
				}
			}
			checkKey(t, name, f, s, len(s), []byte{1}, plain.Strip(s)) // All may be erased: it is short as it is.
		}
	}
}

// TestKeyOfNoughts: of noughts 1 and nothing; with one byte behind too many noughts, nothing is told.
func TestKeyOfNoughts(t *testing.T) {
	t.Parallel()
	for name, f := range fields() {
		for n := range 30 {
			for erased := range n + 1 {
				checkKey(t, name, f, make([]byte, n), erased, []byte{1}, nil)
				for _, b := range []byte{1, 0xFF} {
					for behind := range 4 {
						s := plain.Behind(plain.LastOne(n+1, b), behind)
						if n < halfPlain(s, erased) {
							checkKey(t, name, f, s, erased, []byte{1}, plain.Alone(b, n))
						} else {
							checkNoKey(t, name, f, s, erased)
						}
					}
				}
			}
		}
	}
}

// TestKeyOfMultiples: a list times a byte has the same locator, and the evaluator times that byte.
func TestKeyOfMultiples(t *testing.T) {
	t.Parallel()
	for name, f := range fields() {
		for i, s := range lists() {
			erased := i % (len(s) + 1)
			locator, evaluator, ok := keyPlain(s, erased)
			for _, a := range []byte{1, 2, 0x8E, 0xFF} {
				if ok {
					checkKey(t, name, f, plain.Times(a, s), erased, locator, plain.Scaled(a, evaluator))
				} else {
					checkNoKey(t, name, f, plain.Times(a, s), erased)
				}
			}
		}
	}
}

// TestKeyByRun: Key tells what Run does, each divided by the first byte of what is multiplied by.
func TestKeyByRun(t *testing.T) {
	t.Parallel()
	for name, f := range fields() {
		for _, s := range lists() {
			for erased := range len(s) + 1 {
				left, times := euclid.Run(f, plain.Alone(1, len(s)), s, halfPlain(s, erased))
				if times[0] == 0 {
					checkNoKey(t, name, f, s, erased)
				} else {
					i := plain.Inverse(times[0])
					checkKey(t, name, f, s, erased, plain.Scaled(i, times), plain.Scaled(i, left))
				}
			}
		}
	}
}

// TestKeyLong: of longer lists than poly.Shift tells powers of x for.
func TestKeyLong(t *testing.T) {
	t.Parallel()
	l := append(plain.Mixed(4, 200), 6)
	l[0] = 1
	for name, f := range map[string]*field.Field{"Table": field.Of(api.Table), "Shift": field.Of(api.Shift)} {
		start := plain.LastOne(200+700, 3)
		checkKey(t, name, f, plain.Made(l, start, 2*200+700), 700, l, start)
	}
	for name, f := range fields() {
		s := plain.Made([]byte{1, 2, 0, 9}, []byte{4, 5, 6}, 2000)
		checkKeyHolds(t, name, f, s, 1990)
		checkKey(t, name, f, s, 0, []byte{1, 2, 0, 9}, plain.Cut(plain.Product([]byte{1, 2, 0, 9}, s[:3]), 3))
		checkKey(t, name, f, plain.Behind(plain.LastOne(1500, 0x11), 1500), 0, []byte{1}, plain.LastOne(1500, 0x11))
		checkNoKey(t, name, f, plain.LastOne(1500, 0x11), 0)
		checkNoKey(t, name, f, s, 2001)
	}
}

// TestKeyByNone: a nil Field tells nothing, nothing, false.
func TestKeyByNone(t *testing.T) {
	for _, s := range append(lists(), make([]byte, 3000)) {
		for _, erased := range plain.Around(len(s)) {
			checkNoKey(t, "nil", nil, s, erased)
		}
	}
}
