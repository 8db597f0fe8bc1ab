package check_test

import (
	"slices"
	"sync"

	"erratum/api"
	"erratum/field"
	"erratum/plain"
)

// fields are one of each backend.
func fields() map[string]*field.Field {
	return map[string]*field.Field{
		"Table": field.Of(api.Table),
		"Shift": field.Of(api.Shift),
		"Lanes": field.Of(api.Lanes),
	}
}

// known is a right code, and some of its words, that of all 0 among them.
type known struct {
	c     api.Code
	words [][]byte
}

// knownCodes are made once: the plain way takes its time.
var knownCodes = sync.OnceValue(func() []known {
	var l []known
	for _, c := range plain.Codes() {
		l = append(l, known{c, append(plain.Words(c), make([]byte, c.N))})
	}
	return l
})

// wrongPlain is how many places are unlike, and not erased.
func wrongPlain(r, w []byte, e []int) int {
	return len(slices.DeleteFunc(plain.Apart(r, w), func(i int) bool { return slices.Contains(e, i) }))
}

// mended says whether so many are no more than a right code's Space.
func mended(c api.Code, wrong, erased int) bool { return 2*wrong+erased <= c.N-c.K }

// come is what a channel makes of a word: at some places bytes that are wrong, and others that are erased, of which every third one is as it was.
type come struct {
	r []byte
	e []int
}

// through are what comes of a word, so many bytes of it wrong and so many erased, at places that hang on the seed.
func through(w []byte, wrong, erased, seed int) come {
	places := mixedPlaces(len(w), seed)
	r, e := slices.Clone(w), slices.Clone(places[:erased])
	for n, i := range places[:erased+wrong] {
		if n >= erased || n%3 != seed%3 {
			r[i] ^= byte(seed*29+n*53)%255 + 1
		}
	}
	return come{r, e}
}

// mixedPlaces are all places of long bytes, each once, in an order that hangs on the seed.
func mixedPlaces(long, seed int) []int {
	var l []int
	for i := range long {
		l = append(l, i)
	}
	for n := range l {
		m := (n*n*7 + seed*13 + n*31) % long
		l[n], l[m] = l[m], l[n]
	}
	return l
}

// shares are how many bytes may be wrong and erased, at the bound of a right code's Space: none erased, one, two, half of it, all but one, and all.
func shares(c api.Code) [][2]int {
	space := c.N - c.K
	var l [][2]int
	for _, erased := range []int{0, 1, 2, space / 2, space - 1, space} {
		if erased <= space && !slices.Contains(l, [2]int{(space - erased) / 2, erased}) {
			l = append(l, [2]int{(space - erased) / 2, erased})
		}
	}
	return l
}
