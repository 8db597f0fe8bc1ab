package check_test

import (
	"slices"
	"sync"

	"erratum/api"
	"erratum/field"
	"erratum/plain"
)

// fields are one of each backend.
func fields() map[string]*field.Field {
	return map[string]*field.Field{
		"Table": field.Of(api.Table),
		"Shift": field.Of(api.Shift),
		"Lanes": field.Of(api.Lanes),
	}
}

// known is a right code, and some of its words, that of all 0 among them.
type known struct {
	c     api.Code
	words [][]byte
}

// knownCodes are made once: the plain way takes its time.
var knownCodes = sync.OnceValue(func() []known {
	var l []known
	for _, c := range plain.Codes() {
		l = append(l, known{c, append(plain.Words(c), make([]byte, c.N))})
	}
	return l
})

// wrongPlain is how many places are unlike, and not erased.
func wrongPlain(r, w []byte, e []int) int {
	return len(slices.DeleteFunc(plain.Apart(r, w), func(i int) bool { return slices.Contains(e, i) }))
}
