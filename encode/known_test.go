package encode_test

import (
	"sync"

	"erratum/api"
	"erratum/field"
	"erratum/plain"
)

// fields are one of each backend.
func fields() map[string]*field.Field {
	return map[string]*field.Field{
		"Table": field.Of(api.Table),
		"Shift": field.Of(api.Shift),
		"Lanes": field.Of(api.Lanes),
	}
}

// known is a right code, messages of it, and in their places the words that end in them.
type known struct {
	c        api.Code
	messages [][]byte
	words    [][]byte
}

// knownCodes are made once: the plain way takes its time.
var knownCodes = sync.OnceValue(func() []known {
	var l []known
	for _, c := range plain.Codes() {
		k := known{c: c, messages: plain.Messages(c)}
		for _, m := range k.messages {
			k.words = append(k.words, plain.Word(c, m))
		}
		l = append(l, k)
	}
	return l
})
