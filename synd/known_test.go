package synd_test

import (
	"slices"
	"sync"

	"erratum/api"
	"erratum/field"
	"erratum/plain"
)

// fields are one of each backend.
func fields() map[string]*field.Field {
	return map[string]*field.Field{
		"Table": field.Of(api.Table),
		"Shift": field.Of(api.Shift),
		"Lanes": field.Of(api.Lanes),
	}
}

// received is a list as long as a code's words, with its values at the roots.
type received struct {
	w, syndromes []byte
}

// known is a right code, its roots, some of its words, and lists of that length: words, and others with one byte another one, and with many.
type known struct {
	c     api.Code
	roots []byte
	words [][]byte
	lists []received
}

// knownCodes are made once: the plain way takes its time.
var knownCodes = sync.OnceValue(func() []known {
	var l []known
	for _, c := range plain.Codes() {
		k := known{c: c, roots: plain.Roots(c), words: plain.Words(c)}
		for _, w := range manyLists(k) {
			k.lists = append(k.lists, received{w, plain.Values(w, k.roots)})
		}
		l = append(l, k)
	}
	return l
})

// manyLists are as long as a code's words: these, all 0, and what has one byte, some, or all bytes wrong.
func manyLists(k known) [][]byte {
	n := k.c.N
	l := append(slices.Clone(k.words), make([]byte, n), slices.Repeat([]byte{1}, n), slices.Repeat([]byte{0xFF}, n), plain.Mixed(3, n))
	for i, w := range k.words {
		l = append(l, plain.Added(w, i*7%n, 0x21), plain.Added(plain.Added(w, 0, 1), n-1, 1), plain.Xored(w, plain.Mixed(i+1, n/2)), plain.Xored(w, plain.Mixed(i+1, n)))
	}
	return l
}

// numbers are as many as n of many kinds, in no order, some of them more than once; another seed tells others.
func numbers(seed, n int) []int {
	var l []int
	for i := range n {
		l = append(l, (i*i*31+seed*17)%997-300)
	}
	return l
}
