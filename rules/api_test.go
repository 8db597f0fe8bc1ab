package rules

import (
	"testing"

	"erratum/api"
)

func TestNumbers(t *testing.T) {
	for _, c := range []struct {
		name      string
		got, want int
	}{
		{"MaxLen", api.MaxLen, 255}, {"MaxDepth", api.MaxDepth, 255}, {"MaxSide", api.MaxSide, 300},
		{"MaxStream", api.MaxStream, 16777216}, {"Head", api.Head, 10}, {"Modulus", api.Modulus, 0x11D},
		{"Auto", api.Auto, 0}, {"Table", api.Table, 1}, {"Shift", api.Shift, 2}, {"Lanes", api.Lanes, 3},
		{"Massey", api.Massey, 1}, {"Euclid", api.Euclid, 2}, {"Welch", api.Welch, 3},
	} {
		if c.got != c.want {
			t.Errorf("%s is %d, not %d", c.name, c.got, c.want)
		}
	}
}

func TestErrors(t *testing.T) {
	for _, c := range []struct {
		got    api.Errno
		number uint16
		text   string
	}{
		{api.OK, 0, "erratum 0"}, {api.ErrArg, 1, "erratum 1"}, {api.BadParams, 10, "erratum 10"},
		{api.BadSelector, 11, "erratum 11"}, {api.BadLength, 12, "erratum 12"}, {api.BadErasure, 13, "erratum 13"},
		{api.Uncorrectable, 14, "erratum 14"}, {api.ErrHead, 20, "erratum 20"}, {api.ErrSize, 21, "erratum 21"},
	} {
		if uint16(c.got) != c.number || c.got.Error() != c.text {
			t.Errorf("%d, %q is not %d, %q", uint16(c.got), c.got.Error(), c.number, c.text)
		}
	}
}
