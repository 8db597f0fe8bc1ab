package plain

import (
	"math"
	"slices"

	"erratum/api"
)

// AllPlaces are those of a right code, rising.
func AllPlaces(c api.Code) []int {
	var l []int
	for i := range c.N {
		l = append(l, i)
	}
	return l
}

// Places are lists of places of a right code, each once: none, one, some, and all of them, rising, falling, and from both ends by turns.
func Places(c api.Code) [][]int {
	rising, falling := AllPlaces(c), AllPlaces(c)
	var turns []int
	for i := range rising {
		if i%2 == 1 {
			turns = append(turns, c.N-1-i/2)
		} else {
			turns = append(turns, i/2)
		}
	}
	slices.Reverse(falling)
	return [][]int{nil, {}, {0}, {1}, {c.N - 1}, {0, c.N - 1}, {c.N - 1, 0}, rising[1:], rising[:c.N-1], turns[:(c.N+1)/2], falling[c.N/2:], falling[c.N/4:],
		rising, falling, turns}
}

// CrookedPlaces are lists that are not places of a right code, each once: Places with a number that is no place ahead, in the midst or behind, or with one of them once more, next to itself or far from itself.
func CrookedPlaces(c api.Code) [][]int {
	var l [][]int
	for _, e := range Places(c) {
		for _, no := range []int{-1, -c.N, -255, -256, c.N - 256, c.N, c.N + 1, 2*c.N - 1, 255, 256, c.N + 255, c.N + 256, 1 << 16, math.MinInt, math.MinInt + 1, math.MaxInt} {
			for _, at := range []int{0, len(e) / 2, len(e)} {
				l = append(l, slices.Insert(slices.Clone(e), at, no))
			}
		}
		if last := len(e) - 1; last >= 0 {
			l = append(l, append(slices.Clone(e), e[0]), append(slices.Clone(e), e[last]), append(slices.Clone(e), e[last/2]),
				slices.Insert(slices.Clone(e), 0, e[0]), slices.Insert(slices.Clone(e), 0, e[last]), slices.Insert(slices.Clone(e), last/2, e[last/2]), slices.Concat(e, e))
		}
	}
	return l
}

// AnyPlaces are lists of numbers, places of a code or not: none, one, in whatever order, above 254, below 0, more than once, and the ends of an int.
func AnyPlaces() [][]int {
	return [][]int{nil, {}, {0}, {1}, {7}, {254}, {255}, {256}, {-1}, {-2}, {-254}, {-255}, {-256}, {510}, {1000000}, {-1000000}, {math.MinInt}, {math.MaxInt},
		{0, 1}, {1, 0}, {0, 0}, {5, 5}, {5, 5, 5}, {0, 255}, {255, 0}, {-255, 0, 255}, {-1, 254}, {3, 9, 3}, {9, 3, 3}, {3, 3, 9}, {0, 1, 2, 3}, {3, 1, 0, 2}, {300, -300, 45, -45},
		{math.MinInt, math.MaxInt}, {math.MaxInt, 0, math.MinInt}, {math.MaxInt, 4, math.MaxInt}, {math.MinInt, math.MinInt + 1, math.MaxInt - 1, math.MaxInt},
		{40, 30, 20, 10, 0, -10, -20}, {-3, -2, -1, 0, 1, 2, 3}, {12, 250, 3, 99, 180, 41, 7, 222, 64, 128, 63, 129}}
}

// Point is the power of 2 that a place has; they come again after 255.
func Point(i int) byte { return Power((i%255 + 255) % 255) }

// Locator is the product of 1 and each place's power times x.
func Locator(e []int) []byte {
	l := []byte{1}
	for _, i := range e {
		l = Product(l, []byte{1, Point(i)})
	}
	return l
}
