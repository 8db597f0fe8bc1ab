package chien_test

import (
	"slices"
	"sync"

	"erratum/api"
	"erratum/field"
	"erratum/plain"
)

// fields are one of each backend.
func fields() map[string]*field.Field {
	return map[string]*field.Field{
		"Table": field.Of(api.Table),
		"Shift": field.Of(api.Shift),
		"Lanes": field.Of(api.Lanes),
	}
}

// inverse is what the point of a place is multiplied by to 1.
func inverse(i int) byte { return plain.Inverse(plain.Point(i)) }

// inverses are those of the places that a code may have at most: the plain way takes its time.
var inverses = sync.OnceValue(func() []byte {
	var l []byte
	for i := range api.MaxLen {
		l = append(l, inverse(i))
	}
	return l
})

// placesPlain are the places of a right code that Places is to tell.
func placesPlain(c api.Code, l []byte) []int {
	return slices.DeleteFunc(plain.AllPlaces(c), func(i int) bool { return plain.Value(l, inverses()[i]) != 0 })
}

// evaluatorPlain is what Evaluator is to tell.
func evaluatorPlain(s, locator []byte) []byte {
	return plain.Cut(plain.Product(s, locator), len(s))
}

// valuesPlain are what Values is to tell of a right code.
func valuesPlain(c api.Code, evaluator, locator []byte, places []int) ([]byte, bool) {
	var values []byte
	derived := plain.Derived(locator)
	for _, i := range places {
		below := plain.Value(derived, inverse(i))
		if below == 0 {
			return nil, false
		}
		quotient := plain.Mul(plain.Value(evaluator, inverse(i)), plain.Inverse(below))
		values = append(values, plain.Mul(quotient, plain.Point(i%255*(1-c.B))))
	}
	return values, true
}

// mendPlain is what Mend is to tell.
func mendPlain(w []byte, places []int, values []byte) []byte {
	mended := slices.Clone(w)
	for k := range min(len(places), len(values)) {
		for i := range mended {
			if i == places[k] {
				mended[i] ^= values[k]
			}
		}
	}
	return mended
}

// codes are right ones of many kinds, each with B of 0, 1, 2 and the greatest among them.
func codes() []api.Code {
	l := plain.Codes()
	for _, b := range []int{0, 1, 2, 254} {
		l = append(l, api.Code{N: 3, K: 1, B: b}, api.Code{N: 11, K: 4, B: b}, api.Code{N: 70, K: 3, B: b}, api.Code{N: 255, K: 191, B: b})
	}
	return slices.Compact(l)
}

// lengths are right codes, each of another length.
func lengths() []api.Code {
	met := map[int]bool{}
	return slices.DeleteFunc(codes(), func(c api.Code) bool {
		was := met[c.N]
		met[c.N] = true
		return was
	})
}

// known is a word of a right code, what came of it, at which places it is another one, in no order, by which values, and what may be worked out of that.
type known struct {
	c                     api.Code
	w, r                  []byte
	places                []int
	values                []byte
	s, locator, evaluator []byte
}

// knownWrongs are of all codes a word each with no place wrong, one, two, half as many as there are roots, all but one, and all. They are made once: the plain way takes its time.
var knownWrongs = sync.OnceValue(func() []known {
	var many []known
	for i, c := range codes() {
		words, space := plain.Words(c), c.N-c.K
		var met []int
		for seed, n := range []int{0, 1, 2, space / 2, space - 1, space} {
			if n > space || slices.Contains(met, n) {
				continue
			}
			met = append(met, n)
			w := words[(i+seed)%len(words)]
			many = append(many, knownOf(c, w, plain.Through(w, n, 0, i+seed).R, plain.MixedPlaces(c.N, i+seed)[:n]))
		}
	}
	return many
})

// knownOf is what is to be told of a word, of what came, and of places, that are all where they are unlike, and others.
func knownOf(c api.Code, w, r []byte, places []int) known {
	k := known{c: c, w: w, r: r, places: places, s: plain.Values(r, plain.Roots(c)), locator: plain.Locator(places)}
	for _, i := range places {
		k.values = append(k.values, r[i]^w[i])
	}
	k.evaluator = evaluatorPlain(k.s, k.locator)
	return k
}

// places are all short lists of places and the lists of whatever numbers, more than once, too.
func places() [][]int {
	return slices.Concat(plain.AnyPlaces(), plain.AllShort(2, 0, 1, 3, -1, 254, 255))
}
