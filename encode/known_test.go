package encode_test

import (
	"sync"

	"erratum/api"
	"erratum/field"
	"erratum/plain"
)

// fields are one of each backend.
func fields() map[string]*field.Field {
	return map[string]*field.Field{
		"Table": field.Of(api.Table),
		"Shift": field.Of(api.Shift),
		"Lanes": field.Of(api.Lanes),
	}
}

// known is a right code, messages of it, and in their places the words that end in them.
type known struct {
	c        api.Code
	messages [][]byte
	words    [][]byte
}

// knownCodes are made once: the plain way takes its time.
var knownCodes = sync.OnceValue(func() []known {
	var l []known
	for _, c := range plain.Codes() {
		k := known{c: c, messages: plain.Messages(c)}
		for _, m := range k.messages {
			k.words = append(k.words, plain.Word(c, m))
		}
		l = append(l, k)
	}
	return l
})

// otherLengths are lists that are not long: none, one byte, one fewer and one more, twice as many, and some others.
func otherLengths(long int, others ...int) [][]byte {
	var l [][]byte
	for _, n := range append([]int{0, 1, long - 1, long + 1, 2 * long, 255, 256, long + 255, long + 256, 511}, others...) {
		if n >= 0 && n != long {
			l = append(l, make([]byte, n), plain.Mixed(n, n))
		}
	}
	return append(l, nil)
}
