package synd_test

import (
	"math"
	"slices"
	"testing"

	"erratum/api"
	"erratum/plain"
	"erratum/synd"
)

// checkErasures: Erasures says so.
func checkErasures(t *testing.T, c api.Code, e []int, want api.Errno) {
	t.Helper()
	if got := synd.Erasures(c, e); got != want {
		t.Errorf("Erasures(%v, %v) = %d, not %d", c, e, got, want)
	}
}

func TestErasuresKnown(t *testing.T) {
	for _, c := range []struct {
		c    api.Code
		e    []int
		want api.Errno
	}{
		{api.Code{N: 4, K: 2, B: 0}, nil, api.OK},
		{api.Code{N: 4, K: 2, B: 0}, []int{}, api.OK},
		{api.Code{N: 4, K: 2, B: 0}, []int{3, 0}, api.OK},
		// More than the code's space: they are places all the same.
		{api.Code{N: 4, K: 3, B: 0}, []int{2, 0, 3, 1}, api.OK},
		{api.Code{N: 4, K: 2, B: 0}, []int{1, 1}, api.BadErasure},
		{api.Code{N: 4, K: 2, B: 0}, []int{1, 2, 3, 1}, api.BadErasure},
		{api.Code{N: 4, K: 2, B: 0}, []int{0, 0, 0, 0}, api.BadErasure},
		{api.Code{N: 4, K: 2, B: 0}, []int{-1}, api.BadErasure},
		{api.Code{N: 4, K: 2, B: 0}, []int{4}, api.BadErasure},
		{api.Code{N: 4, K: 2, B: 0}, []int{0, 1, 2, 3, 4}, api.BadErasure},
		{api.Code{N: 2, K: 1, B: 254}, []int{1, 0}, api.OK},
		{api.Code{N: 2, K: 1, B: 254}, []int{2}, api.BadErasure},
		{api.Code{N: 255, K: 1, B: 0}, []int{254, 0}, api.OK},
		{api.Code{N: 255, K: 1, B: 0}, []int{255}, api.BadErasure},
		{api.Code{N: 255, K: 1, B: 0}, []int{math.MinInt}, api.BadErasure},
		{api.Code{N: 255, K: 1, B: 0}, []int{0, math.MaxInt}, api.BadErasure},
		{api.Code{N: 4, K: 4, B: 0}, nil, api.BadParams},
		{api.Code{N: 256, K: 2, B: 0}, []int{255}, api.BadParams},
		{api.Code{N: 4, K: 2, B: 255}, []int{1, 1}, api.BadParams},
		{api.Code{}, []int{-1}, api.BadParams},
	} {
		checkErasures(t, c.c, c.e, c.want)
	}
}

func TestErasures(t *testing.T) {
	for _, c := range append(plain.Codes(), plain.SmallCodes(6)...) {
		for _, e := range plain.Places(c) {
			checkErasures(t, c, e, api.OK)
		}
	}
}

func TestErasuresOfCrookedPlaces(t *testing.T) {
	for _, c := range append(plain.Codes(), plain.SmallCodes(4)...) {
		for _, e := range plain.CrookedPlaces(c) {
			checkErasures(t, c, e, api.BadErasure)
		}
	}
}

// TestErasuresOfEachNumber: alone, and behind all others: of each number from far below 0 to far above N, just the places are OK.
func TestErasuresOfEachNumber(t *testing.T) {
	for _, c := range plain.Codes() {
		for i := -600; i <= 600; i++ {
			want := api.BadErasure
			if i >= 0 && i < c.N {
				want = api.OK
			}
			checkErasures(t, c, []int{i}, want)
			var others []int
			for other := range c.N {
				if other != i {
					others = append(others, other)
				}
			}
			checkErasures(t, c, append(others, i), want)
		}
	}
}

// TestErasuresOfAllTwo: each place once more, at each other one's side, and first and last of all.
func TestErasuresOfAllTwo(t *testing.T) {
	c := api.Code{N: 40, K: 9, B: 77}
	all := plain.AllPlaces(c)
	for twice := range c.N {
		for at := range c.N + 1 {
			checkErasures(t, c, slices.Insert(slices.Clone(all), at, twice), api.BadErasure)
		}
		for other := range c.N {
			want := api.OK
			if other == twice {
				want = api.BadErasure
			}
			checkErasures(t, c, []int{twice, other}, want)
		}
	}
}

// TestErasuresOfAllShort: all lists of up to five numbers from -1 to 4, each held against the chapter's words.
func TestErasuresOfAllShort(t *testing.T) {
	c := api.Code{N: 4, K: 2, B: 254}
	for _, e := range plain.AllShort(5, -1, 0, 1, 2, 3, 4) {
		want := api.OK
		for i, place := range e {
			if place < 0 || place > 3 || slices.Contains(e[:i], place) {
				want = api.BadErasure
			}
		}
		checkErasures(t, c, e, want)
	}
}

// TestErasuresOfMany: more numbers than a code may have places.
func TestErasuresOfMany(t *testing.T) {
	for _, c := range plain.Codes() {
		for _, n := range []int{c.N + 1, 256, 511, 100000} {
			many := make([]int, n)
			checkErasures(t, c, many, api.BadErasure)
			for i := range many {
				many[i] = i % c.N
			}
			checkErasures(t, c, many, api.BadErasure)
			for i := range many {
				many[i] = i
			}
			checkErasures(t, c, many, api.BadErasure)
		}
	}
}

// TestErasuresOfCrooked: a code that is not right is told ahead of places that are none, or stand twice, and of ones that might be.
func TestErasuresOfCrooked(t *testing.T) {
	right := api.Code{N: 4, K: 2, B: 0}
	lists := slices.Concat(plain.Places(right), plain.CrookedPlaces(right), plain.AnyPlaces())
	for _, c := range plain.CrookedCodes() {
		for _, e := range lists {
			checkErasures(t, c, e, api.BadParams)
		}
		checkErasures(t, c, []int{c.N - 1}, api.BadParams)
		checkErasures(t, c, []int{c.N, c.N}, api.BadParams)
	}
}

func TestSortedKnown(t *testing.T) {
	for _, c := range []struct{ e, want []int }{
		{nil, nil},
		{[]int{}, nil},
		{[]int{0}, []int{0}},
		{[]int{-7}, []int{-7}},
		{[]int{3, 0, 3}, []int{0, 3}},
		{[]int{1, 2, 3}, []int{1, 2, 3}},
		{[]int{3, 2, 1}, []int{1, 2, 3}},
		{[]int{2, 3, 1}, []int{1, 2, 3}},
		{[]int{5, 5, 5, 5}, []int{5}},
		{[]int{1, 1, 2, 2, 3, 3}, []int{1, 2, 3}},
		{[]int{1, 2, 3, 3, 2, 1}, []int{1, 2, 3}},
		{[]int{0, -1, 1, -1, 0}, []int{-1, 0, 1}},
		{[]int{-1, -2, -10, -2}, []int{-10, -2, -1}},
		{[]int{10, 9, 100, 2}, []int{2, 9, 10, 100}},
		{[]int{256, 0, 255, -1, 1}, []int{-1, 0, 1, 255, 256}},
		{[]int{math.MaxInt, math.MinInt}, []int{math.MinInt, math.MaxInt}},
		{[]int{math.MaxInt, -1, math.MinInt, 0, math.MaxInt, math.MinInt, math.MinInt + 1, math.MaxInt - 1}, []int{math.MinInt, math.MinInt + 1, -1, 0, math.MaxInt - 1, math.MaxInt}},
	} {
		if got := synd.Sorted(c.e); !slices.Equal(got, c.want) {
			t.Errorf("Sorted(%v) = %v, not %v", c.e, got, c.want)
		}
	}
}

// checkSorted: rising, each once, just what the list has, and the list is as it was.
func checkSorted(t *testing.T, e []int) {
	t.Helper()
	was := slices.Clone(e)
	got := synd.Sorted(e)
	for i := range got {
		if i > 0 && got[i-1] >= got[i] {
			t.Fatalf("Sorted(%v) = %v does not rise", was, got)
		}
	}
	want := slices.Clone(e)
	slices.Sort(want)
	if !slices.Equal(got, slices.Compact(want)) {
		t.Errorf("Sorted(%v) = %v", was, got)
	}
	if !slices.Equal(e, was) {
		t.Errorf("Sorted(%v) changed it to %v", was, e)
	}
	if again := synd.Sorted(got); !slices.Equal(again, got) {
		t.Errorf("Sorted(%v) = %v: it was sorted", got, again)
	}
}

func TestSorted(t *testing.T) {
	right := api.Code{N: 255, K: 1, B: 0}
	for _, e := range slices.Concat(plain.AnyPlaces(), plain.Places(right), plain.CrookedPlaces(right)) {
		checkSorted(t, e)
	}
	for _, n := range []int{2, 3, 12, 13, 50, 256, 1000, 100000} {
		for seed := range 3 {
			checkSorted(t, numbers(seed, n))
		}
	}
}

// TestSortedOfAllShort: all lists of up to six of four numbers.
func TestSortedOfAllShort(t *testing.T) {
	for _, e := range plain.AllShort(6, -1, 0, 3, math.MinInt) {
		checkSorted(t, e)
	}
}
