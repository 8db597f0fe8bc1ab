package check_test

import (
	"math"
	"slices"
	"testing"

	"erratum/api"
	"erratum/check"
	"erratum/plain"
)

// checkApart: so are the places, rising, and the same turned about.
func checkApart(t *testing.T, r, w []byte, want []int) {
	t.Helper()
	got := check.Apart(r, w)
	if !slices.Equal(got, want) {
		t.Fatalf("Apart(%X, %X) = %v, not %v", r, w, got, want)
	}
	if back := check.Apart(w, r); !slices.Equal(back, want) {
		t.Fatalf("Apart(%X, %X) = %v, not %v, as turned about", w, r, back, want)
	}
	for n := 1; n < len(got); n++ {
		if got[n-1] >= got[n] {
			t.Fatalf("Apart(%X, %X) = %v does not rise", r, w, got)
		}
	}
}

func TestApartKnown(t *testing.T) {
	for _, c := range []struct {
		r, w []byte
		want []int
	}{
		{nil, nil, nil},
		{[]byte{}, nil, nil},
		{nil, []byte{1, 2}, nil},
		{[]byte{}, []byte{0}, nil},
		{[]byte{0}, []byte{0}, nil},
		{[]byte{7}, []byte{7}, nil},
		{[]byte{7}, []byte{6}, []int{0}},
		{[]byte{0}, []byte{0x80}, []int{0}},
		{[]byte{2, 3, 1, 0}, []byte{2, 3, 1, 0}, nil},
		{[]byte{2, 7, 1, 0}, []byte{2, 3, 1, 0}, []int{1}},
		{[]byte{5, 3, 1, 0}, []byte{2, 3, 1, 0}, []int{0}},
		{[]byte{2, 3, 1, 9}, []byte{2, 3, 1, 0}, []int{3}},
		{[]byte{5, 3, 1, 9}, []byte{2, 3, 1, 0}, []int{0, 3}},
		{[]byte{0, 1, 2, 3}, []byte{2, 3, 1, 0}, []int{0, 1, 2, 3}},
		// Up to the end of the shorter one.
		{[]byte{2, 7}, []byte{2, 3, 1, 0}, []int{1}},
		{[]byte{2, 3}, []byte{2, 3, 1, 0}, nil},
		{[]byte{9}, []byte{2, 3, 1, 0}, []int{0}},
		{[]byte{2, 3, 1}, []byte{2, 3, 1, 0}, nil},
		{[]byte{2, 3, 1, 0, 0}, []byte{2, 3, 1, 0}, nil},
		{[]byte{2, 3, 0, 4, 5}, []byte{2, 3, 1}, []int{2}},
	} {
		checkApart(t, c.r, c.w, c.want)
	}
}

// TestApartOfAllShort: all lists of up to four of three bytes.
func TestApartOfAllShort(t *testing.T) {
	lists := plain.AllShort(4, []byte{0, 1, 0x81}...)
	for _, r := range lists {
		for _, w := range lists {
			checkApart(t, r, w, plain.Apart(r, w))
		}
	}
}

// TestApart: lists of many lengths, either one the longer.
func TestApart(t *testing.T) {
	for _, r := range plain.Polys() {
		for _, w := range plain.Polys() {
			checkApart(t, r, w, plain.Apart(r, w))
		}
	}
}

// TestApartOfOnePlace: each place of a long list, alone, and all places but it; by each byte.
func TestApartOfOnePlace(t *testing.T) {
	for _, long := range []int{1, 2, 64, 255, 300} {
		w := plain.Mixed(5, long)
		turned := plain.Xored(w, slices.Repeat([]byte{0x40}, long))
		for i := range long {
			sum := byte(i) | 1
			checkApart(t, plain.Added(w, i, sum), w, []int{i})
			var others []int
			for other := range long {
				if other != i {
					others = append(others, other)
				}
			}
			checkApart(t, plain.Added(turned, i, 0x40), w, others)
		}
	}
	plain.AllPairs(func(a, b byte) {
		if got := len(check.Apart([]byte{a}, []byte{b})) == 1; got != (a != b) {
			t.Errorf("are %02X and %02X unlike? %v", a, b, got)
		}
	})
}

// TestApartOfLong: lists much longer than words.
func TestApartOfLong(t *testing.T) {
	r, w := plain.Mixed(1, 100000), plain.Mixed(2, 70000)
	checkApart(t, r, w, plain.Apart(r, w))
	checkApart(t, r, r, nil)
	checkApart(t, r, plain.Added(r, 99999, 1), []int{99999})
}

// checkWrong: so many are wrong, and as many turned about.
func checkWrong(t *testing.T, r, w []byte, e []int, want int) {
	t.Helper()
	if got := check.Wrong(r, w, e); got != want {
		t.Fatalf("Wrong(%X, %X, %v) = %d, not %d", r, w, e, got, want)
	}
	if got := check.Wrong(w, r, e); got != want {
		t.Fatalf("Wrong(%X, %X, %v) = %d, not %d, as turned about", w, r, e, got, want)
	}
}

func TestWrongKnown(t *testing.T) {
	w := []byte{2, 3, 1, 0}
	for _, c := range []struct {
		r    []byte
		e    []int
		want int
	}{
		{nil, nil, 0},
		{nil, []int{0}, 0},
		{[]byte{2, 3, 1, 0}, nil, 0},
		{[]byte{2, 3, 1, 0}, []int{0, 1, 2, 3}, 0},
		{[]byte{2, 7, 1, 0}, nil, 1},
		{[]byte{2, 7, 1, 0}, []int{}, 1},
		{[]byte{2, 7, 1, 0}, []int{1}, 0},
		{[]byte{2, 7, 1, 0}, []int{0}, 1},
		{[]byte{2, 7, 1, 0}, []int{0, 2, 3}, 1},
		{[]byte{2, 7, 1, 0}, []int{3, 1, 0}, 0},
		{[]byte{9, 7, 1, 8}, nil, 3},
		{[]byte{9, 7, 1, 8}, []int{3}, 2},
		{[]byte{9, 7, 1, 8}, []int{3, 2}, 2},
		{[]byte{9, 7, 1, 8}, []int{3, 0}, 1},
		{[]byte{9, 7, 1, 8}, []int{1, 3, 0}, 0},
		// What stands twice is among them once.
		{[]byte{9, 7, 1, 8}, []int{3, 3}, 2},
		{[]byte{9, 7, 1, 8}, []int{3, 3, 3, 3, 3}, 2},
		{[]byte{9, 7, 1, 8}, []int{2, 2}, 3},
		{[]byte{9, 7, 1, 8}, []int{0, 3, 0}, 1},
		// What is no place takes nothing away.
		{[]byte{9, 7, 1, 8}, []int{-1, 4, 5, -4, 256, 259, -253}, 3},
		{[]byte{9, 7, 1, 8}, []int{math.MinInt, math.MaxInt, math.MinInt}, 3},
		{[]byte{9, 7, 1, 8}, []int{math.MaxInt, 1, math.MinInt}, 2},
		{[]byte{9, 7}, nil, 2},
		{[]byte{9, 7}, []int{2, 3}, 2},
		{[]byte{9, 7}, []int{1, 2, 3}, 1},
		{[]byte{9, 7, 1, 8, 4, 4}, nil, 3},
		{[]byte{9, 7, 1, 8, 4, 4}, []int{4, 5}, 3},
	} {
		checkWrong(t, c.r, w, c.e, c.want)
	}
}

// TestWrongOfAllShort: all lists of up to three bytes with all of up to three numbers, below 0 and beyond among them.
func TestWrongOfAllShort(t *testing.T) {
	lists := plain.AllShort(3, []byte{0, 9}...)
	places := plain.AllShort(3, -1, 0, 1, 2, 3)
	for _, r := range lists {
		for _, w := range lists {
			for _, e := range places {
				checkWrong(t, r, w, e, wrongPlain(r, w, e))
			}
		}
	}
}

// TestWrong: lists of many lengths, with places of them and with numbers that are none.
func TestWrong(t *testing.T) {
	c := api.Code{N: 255, K: 128}
	places := slices.Concat(plain.AnyPlaces(), plain.Places(c), plain.CrookedPlaces(c)[:200])
	polys := plain.Polys()
	for i, e := range places {
		for j, r := range polys {
			w := polys[(i+j)%len(polys)]
			checkWrong(t, r, w, e, wrongPlain(r, w, e))
		}
	}
}

// TestWrongWithoutErasures: as many as are apart; and with all these erased none.
func TestWrongWithoutErasures(t *testing.T) {
	for _, r := range plain.Polys() {
		for _, w := range plain.Polys() {
			apart := check.Apart(r, w)
			checkWrong(t, r, w, nil, len(apart))
			checkWrong(t, r, w, apart, 0)
			for n := range apart {
				checkWrong(t, r, w, apart[:n], len(apart)-n)
			}
		}
	}
}

// TestWrongOfLong: lists much longer than words, and many more numbers than places.
func TestWrongOfLong(t *testing.T) {
	r, w := plain.Mixed(1, 100000), plain.Mixed(2, 100000)
	var even, all []int
	want := 0
	for i := range 200000 {
		all = append(all, 150000-i)
		if i%2 == 0 {
			even = append(even, i, i)
		} else if i < 100000 && r[i] != w[i] {
			want++
		}
	}
	checkWrong(t, r, w, even, want)
	checkWrong(t, r, w, all, 0)
}

// checkFits: Fits says so.
func checkFits(t *testing.T, c api.Code, wrong, erased int, want bool) {
	t.Helper()
	if got := check.Fits(c, wrong, erased); got != want {
		t.Fatalf("Fits(%v, %d, %d) is %v", c, wrong, erased, got)
	}
}

func TestFitsKnown(t *testing.T) {
	small, four, great := api.Code{N: 4, K: 2, B: 0}, api.Code{N: 6, K: 2, B: 254}, api.Code{N: 255, K: 1, B: 0}
	for _, c := range []struct {
		c             api.Code
		wrong, erased int
		want          bool
	}{
		{small, 0, 0, true},
		{small, 1, 0, true},
		{small, 0, 1, true},
		{small, 0, 2, true},
		{small, 1, 1, false},
		{small, 2, 0, false},
		{small, 0, 3, false},
		{small, 1, 2, false},
		{four, 1, 2, true},
		{four, 1, 3, false},
		{four, 2, 0, true},
		{four, 2, 1, false},
		{four, 0, 4, true},
		{four, 0, 5, false},
		{great, 127, 0, true},
		{great, 127, 1, false},
		{great, 126, 2, true},
		{great, 126, 3, false},
		{great, 0, 254, true},
		{great, 0, 255, false},
		{great, 128, 0, false},
		{api.Code{N: 2, K: 1, B: 254}, 0, 1, true},
		{api.Code{N: 2, K: 1, B: 254}, 1, 0, false},
		{api.Code{N: 2, K: 1, B: 254}, 0, 0, true},
		{api.Code{N: 4, K: 4, B: 0}, 0, 0, false},
		{api.Code{N: 256, K: 2, B: 0}, 0, 0, false},
		{api.Code{}, 0, 0, false},
		{four, -1, 0, false},
		{four, 0, -1, false},
		{four, -1, -1, false},
		{four, -1, 2, false},
		{four, 3, -2, false},
		{four, math.MaxInt, 0, false},
		{four, 0, math.MaxInt, false},
		{four, math.MinInt, 0, false},
		{four, 0, math.MinInt, false},
		// Twice these come round to -2, to 0, and, with a few erased, to what is no more than Space.
		{four, math.MaxInt, 2, false},
		{four, math.MinInt, 4, false},
		{four, math.MaxInt, math.MaxInt, false},
		{four, math.MinInt, math.MinInt, false},
		{four, math.MaxInt/2 + 1, 0, false},
		{four, math.MaxInt/2 + 1, math.MaxInt, false},
		{four, 1, math.MaxInt, false},
		{four, 1, math.MaxInt - 1, false},
	} {
		checkFits(t, c.c, c.wrong, c.erased, c.want)
	}
}

// TestFits: of each code all numbers from below 0 to above N.
func TestFits(t *testing.T) {
	for _, c := range append(plain.Codes(), plain.SmallCodes(4)...) {
		for wrong := -3; wrong <= c.N+2; wrong++ {
			for erased := -3; erased <= c.N+2; erased++ {
				checkFits(t, c, wrong, erased, wrong >= 0 && erased >= 0 && plain.Mended(c, wrong, erased))
			}
		}
	}
}

// TestFitsOfEachSpace: whatever B, and however N and K leave it, at the bound and one above it.
func TestFitsOfEachSpace(t *testing.T) {
	for space := 1; space < 255; space++ {
		for _, c := range []api.Code{{N: 255, K: 255 - space, B: space}, {N: space + 1, K: 1, B: 254}, {N: (space+255)/2 + 1, K: (space+255)/2 + 1 - space, B: 0}} {
			for erased := range space + 1 {
				most := (space - erased) / 2
				checkFits(t, c, most, erased, true)
				checkFits(t, c, most+1, erased, false)
			}
			checkFits(t, c, 0, space+1, false)
		}
	}
}

// ends are what an int holds at its ends, and what comes round to little when it is doubled, or added to another one.
func ends() []int {
	l := []int{math.MinInt, math.MinInt + 1, math.MinInt + 2, math.MinInt/2 - 1, math.MinInt / 2, math.MinInt/2 + 1, math.MinInt / 4,
		math.MaxInt / 4, math.MaxInt/2 - 1, math.MaxInt / 2, math.MaxInt/2 + 1, math.MaxInt/2 + 2, math.MaxInt - 2, math.MaxInt - 1, math.MaxInt}
	for _, bits := range []int{8, 16, 31, 32, 33} {
		l = append(l, 1<<bits, -1<<bits)
	}
	return l
}

// TestFitsAtTheEnds: of the least and greatest numbers of an int nothing fits, beside few as well as beside each other.
func TestFitsAtTheEnds(t *testing.T) {
	for _, c := range plain.Codes() {
		for _, end := range ends() {
			for few := -5; few <= 260; few++ {
				checkFits(t, c, end, few, false)
				checkFits(t, c, few, end, false)
			}
			for _, other := range ends() {
				checkFits(t, c, end, other, false)
			}
		}
	}
}

// TestFitsOfCrooked: of a code that is not right nothing fits, also nothing at all.
func TestFitsOfCrooked(t *testing.T) {
	for _, c := range plain.CrookedCodes() {
		for wrong := -2; wrong <= 4; wrong++ {
			for erased := -2; erased <= 4; erased++ {
				checkFits(t, c, wrong, erased, false)
			}
		}
		for _, end := range ends() {
			checkFits(t, c, end, 0, false)
			checkFits(t, c, 0, end, false)
			checkFits(t, c, end, end, false)
		}
	}
}
