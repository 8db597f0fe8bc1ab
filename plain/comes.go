package plain

import (
	"slices"

	"erratum/api"
)

// Come is what a channel makes of a word: at some places bytes that are wrong, and others that are erased, of which every third one is as it was.
type Come struct {
	R []byte
	E []int
}

// Through are what comes of a word, so many bytes of it wrong and so many erased, at places that hang on the seed.
func Through(w []byte, wrong, erased, seed int) Come {
	places := MixedPlaces(len(w), seed)
	r, e := slices.Clone(w), slices.Clone(places[:erased])
	for n, i := range places[:erased+wrong] {
		if n >= erased || n%3 != seed%3 {
			r[i] ^= byte(seed*29+n*53)%255 + 1
		}
	}
	return Come{r, e}
}

// MixedPlaces are all places of long bytes, each once, in an order that hangs on the seed.
func MixedPlaces(long, seed int) []int {
	var l []int
	for i := range long {
		l = append(l, i)
	}
	for n := range l {
		m := (n*n*7 + seed*13 + n*31) % long
		l[n], l[m] = l[m], l[n]
	}
	return l
}

// Mended says whether so many are no more than a right code's Space.
func Mended(c api.Code, wrong, erased int) bool { return 2*wrong+erased <= c.N-c.K }

// Shares are how many bytes may be wrong and erased, at the bound of a right code's Space: none erased, one, two, half of it, all but one, and all.
func Shares(c api.Code) [][2]int {
	space := c.N - c.K
	var l [][2]int
	for _, erased := range []int{0, 1, 2, space / 2, space - 1, space} {
		if erased <= space && !slices.Contains(l, [2]int{(space - erased) / 2, erased}) {
			l = append(l, [2]int{(space - erased) / 2, erased})
		}
	}
	return l
}
