package plain

import (
	"math"
	"slices"

	"erratum/api"
)

// AllPlaces are those of a right code, rising.
func AllPlaces(c api.Code) []int {
	var l []int
	for i := range c.N {
		l = append(l, i)
	}
	return l
}

// Places are lists of places of a right code, each once: none, one, some, and all of them, rising, falling, and from both ends by turns.
func Places(c api.Code) [][]int {
	rising, falling := AllPlaces(c), AllPlaces(c)
	var turns []int
	for i := range rising {
		if i%2 == 1 {
			turns = append(turns, c.N-1-i/2)
		} else {
			turns = append(turns, i/2)
		}
	}
	slices.Reverse(falling)
	return [][]int{nil, {}, {0}, {1}, {c.N - 1}, {0, c.N - 1}, {c.N - 1, 0}, rising[1:], rising[:c.N-1], turns[:(c.N+1)/2], falling[c.N/2:], falling[c.N/4:],
		rising, falling, turns}
}

// CrookedPlaces are lists that are not places of a right code, each once: Places with a number that is no place ahead, in the midst or behind, or with one of them once more, next to itself or far from itself.
func CrookedPlaces(c api.Code) [][]int {
	var l [][]int
	for _, e := range Places(c) {
		for _, no := range []int{-1, -c.N, -255, -256, c.N - 256, c.N, c.N + 1, 2*c.N - 1, 255, 256, c.N + 255, c.N + 256, 1 << 16, math.MinInt, math.MinInt + 1, math.MaxInt} {
			for _, at := range []int{0, len(e) / 2, len(e)} {
				l = append(l, slices.Insert(slices.Clone(e), at, no))
			}
		}
		if last := len(e) - 1; last >= 0 {
			l = append(l, append(slices.Clone(e), e[0]), append(slices.Clone(e), e[last]), append(slices.Clone(e), e[last/2]),
				slices.Insert(slices.Clone(e), 0, e[0]), slices.Insert(slices.Clone(e), 0, e[last]), slices.Insert(slices.Clone(e), last/2, e[last/2]), slices.Concat(e, e))
		}
	}
	return l
}
