package code_test

import (
	"bytes"
	"slices"
	"sync"

	"erratum/api"
	"erratum/field"
	"erratum/plain"
)

// fields are one of each backend.
func fields() map[string]*field.Field {
	return map[string]*field.Field{
		"Table": field.Of(api.Table),
		"Shift": field.Of(api.Shift),
		"Lanes": field.Of(api.Lanes),
	}
}

// powersPlain are all powers of 2, by doubling alone; the power i comes again at i + 255.
var powersPlain = sync.OnceValue(func() []byte {
	var l []byte
	for i := range 255 {
		l = append(l, plain.Power(i))
	}
	return l
})

// parityPlain is what Parity is to tell of a right code: each cell by itself.
func parityPlain(c api.Code) api.Matrix {
	m := api.Matrix{Rows: c.N - c.K, Cols: c.N}
	for j := range m.Rows {
		for i := range m.Cols {
			m.Cells = append(m.Cells, powersPlain()[(c.B+j)*i%255])
		}
	}
	return m
}

// known is a right code, and some of its words, the least multiple of all ahead.
type known struct {
	c     api.Code
	words [][]byte
}

// knownCodes are made once: the plain way takes its time.
var knownCodes = sync.OnceValue(func() []known {
	var l []known
	for _, c := range plain.Codes() {
		l = append(l, known{c, plain.Words(c)})
	}
	return l
})

// sorted are bytes, rising.
func sorted(l []byte) []byte { return slices.Sorted(slices.Values(l)) }

// allBut are all bytes, rising, but some.
func allBut(some ...byte) []byte {
	var l []byte
	for b := range 256 {
		if !bytes.Contains(some, []byte{byte(b)}) {
			l = append(l, byte(b))
		}
	}
	return l
}
