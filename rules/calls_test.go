package rules

import (
	"erratum/api"
	"erratum/check"
	"erratum/chien"
	"erratum/code"
	"erratum/codec"
	"erratum/encode"
	"erratum/euclid"
	"erratum/field"
	"erratum/gauss"
	"erratum/lanes"
	"erratum/massey"
	"erratum/matrix"
	"erratum/noise"
	"erratum/pick"
	"erratum/play"
	"erratum/poly"
	"erratum/quot"
	"erratum/shift"
	"erratum/stream"
	"erratum/synd"
	"erratum/table"
	"erratum/three"
	"erratum/value"
	"erratum/weave"
	"erratum/welch"
)

// The calls of all chapters, with their signatures: where one is another one, this is not built.
var (
	_ func(a, b byte) uint16    = shift.Wide
	_ func(w uint16) byte       = shift.Reduce
	_ func(a, b byte) byte      = shift.Mul
	_ func(a byte) (byte, bool) = shift.Inv
	_ func(a byte, n int) byte  = shift.Pow

	_ func() *table.Table                       = table.New
	_ func(_ *table.Table) int                  = (*table.Table).Made
	_ func(_ *table.Table, n int) byte          = (*table.Table).Exp
	_ func(_ *table.Table, a byte) (int, bool)  = (*table.Table).Log
	_ func(_ *table.Table, a, b byte) byte      = (*table.Table).Mul
	_ func(_ *table.Table, a byte) (byte, bool) = (*table.Table).Inv
	_ func(_ *table.Table, a byte, n int) byte  = (*table.Table).Pow

	_ func(l []byte) api.Planes             = lanes.Pack
	_ func(p api.Planes) []byte             = lanes.Unpack
	_ func(p api.Planes, n int) byte        = lanes.Lane
	_ func(p, q api.Planes) api.Planes      = lanes.Add
	_ func(p, q api.Planes) api.Planes      = lanes.Mul
	_ func(p api.Planes, a byte) api.Planes = lanes.Scale
	_ func(p api.Planes) api.Planes         = lanes.Square

	_ func(backend int) *field.Field                = field.Of
	_ func(_ *field.Field) int                      = (*field.Field).Backend
	_ func(_ *field.Field, a, b byte) byte          = (*field.Field).Mul
	_ func(_ *field.Field, a byte) (byte, bool)     = (*field.Field).Inv
	_ func(_ *field.Field, a, b byte) (byte, bool)  = (*field.Field).Div
	_ func(_ *field.Field, a byte, n int) byte      = (*field.Field).Pow
	_ func(_ *field.Field, a byte, l []byte) []byte = (*field.Field).Each
	_ func(_ *field.Field, l, m []byte) []byte      = (*field.Field).Pairs
	_ func(_ *field.Field, l, m []byte) byte        = (*field.Field).Dot

	_ func(p []byte) []byte                         = poly.Norm
	_ func(p []byte) int                            = poly.Deg
	_ func(p []byte, i int) byte                    = poly.Coef
	_ func(p, q []byte) bool                        = poly.Same
	_ func(p, q []byte) []byte                      = poly.Add
	_ func(f *field.Field, a byte, p []byte) []byte = poly.Scale
	_ func(f *field.Field, p, q []byte) []byte      = poly.Mul
	_ func(p []byte, n int) []byte                  = poly.Shift
	_ func(p []byte, n int) []byte                  = poly.Cut

	_ func(f *field.Field, p, q []byte) ([]byte, []byte, bool) = quot.Div
	_ func(f *field.Field, p, q []byte) ([]byte, bool)         = quot.Mod
	_ func(f *field.Field, p, q []byte) ([]byte, bool)         = quot.Exact
	_ func(f *field.Field, p []byte) []byte                    = quot.Monic
	_ func(f *field.Field, p, q []byte) []byte                 = quot.Gcd

	_ func(f *field.Field, p []byte, x byte) byte        = value.At
	_ func(f *field.Field, p, xs []byte) []byte          = value.All
	_ func(p []byte) []byte                              = value.Derive
	_ func(f *field.Field, p []byte) []byte              = value.Zeros
	_ func(f *field.Field, zeros []byte) []byte          = value.From
	_ func(f *field.Field, xs, ys []byte) ([]byte, bool) = value.Through

	_ func(m api.Matrix) bool                                     = matrix.Right
	_ func(rows [][]byte) (api.Matrix, bool)                      = matrix.Of
	_ func(n int) api.Matrix                                      = matrix.One
	_ func(m api.Matrix, i int) []byte                            = matrix.Row
	_ func(m api.Matrix) api.Matrix                               = matrix.Turn
	_ func(a, b api.Matrix) (api.Matrix, bool)                    = matrix.Add
	_ func(f *field.Field, a, b api.Matrix) (api.Matrix, bool)    = matrix.Mul
	_ func(f *field.Field, m api.Matrix, v []byte) ([]byte, bool) = matrix.Times
	_ func(a, b api.Matrix) bool                                  = matrix.Same

	_ func(f *field.Field, m api.Matrix) (api.Matrix, []int)      = gauss.Echelon
	_ func(f *field.Field, m api.Matrix) int                      = gauss.Rank
	_ func(f *field.Field, m api.Matrix, b []byte) ([]byte, bool) = gauss.Solve
	_ func(f *field.Field, m api.Matrix) [][]byte                 = gauss.Null
	_ func(f *field.Field, m api.Matrix) (api.Matrix, bool)       = gauss.Inverse

	_ func(c api.Code) api.Errno                      = code.Right
	_ func(c api.Code) int                            = code.Space
	_ func(f *field.Field, i int) byte                = code.Point
	_ func(f *field.Field, c api.Code) []byte         = code.Roots
	_ func(f *field.Field, c api.Code) []byte         = code.Generator
	_ func(f *field.Field, c api.Code) api.Matrix     = code.Parity
	_ func(f *field.Field, c api.Code, w []byte) bool = code.Has

	_ func(f *field.Field, c api.Code, m []byte) ([]byte, api.Errno) = encode.Encode
	_ func(c api.Code, w []byte) ([]byte, api.Errno)                 = encode.Message

	_ func(f *field.Field, c api.Code, w []byte) []byte = synd.Syndromes
	_ func(c api.Code, e []int) api.Errno               = synd.Erasures
	_ func(f *field.Field, e []int) []byte              = synd.Locator
	_ func(f *field.Field, s, l []byte) []byte          = synd.Modified
	_ func(e []int) []int                               = synd.Sorted

	_ func(r, w []byte) []int                                            = check.Apart
	_ func(r, w []byte, e []int) int                                     = check.Wrong
	_ func(c api.Code, wrong, erased int) bool                           = check.Fits
	_ func(f *field.Field, c api.Code, r []byte, e []int, w []byte) bool = check.Accept
	_ func(c api.Code, r, w []byte) (api.Answer, api.Errno)              = check.Answer

	_ func(f *field.Field, l []byte, n int, s []byte) bool         = massey.Makes
	_ func(f *field.Field, s []byte) ([]byte, int)                 = massey.Massey
	_ func(f *field.Field, s []byte) int                           = massey.Length
	_ func(f *field.Field, l []byte, n int, s []byte) (byte, bool) = massey.Next

	_ func(f *field.Field, a, b []byte, stop int) ([]byte, []byte)      = euclid.Run
	_ func(f *field.Field, a, b []byte, stop int) int                   = euclid.Steps
	_ func(f *field.Field, t []byte, erased int) ([]byte, []byte, bool) = euclid.Key

	_ func(f *field.Field, c api.Code, l []byte) []int                                         = chien.Places
	_ func(f *field.Field, c api.Code, evaluator, locator []byte, places []int) ([]byte, bool) = chien.Values
	_ func(w []byte, places []int, values []byte) []byte                                       = chien.Mend
	_ func(f *field.Field, s, locator []byte) []byte                                           = chien.Evaluator

	_ func(f *field.Field, c api.Code) ([]byte, []byte)         = welch.Points
	_ func(f *field.Field, c api.Code, p []byte) []byte         = welch.Rebuild
	_ func(f *field.Field, p, xs, ys []byte) int                = welch.Unlike
	_ func(f *field.Field, xs, ys []byte, k int) ([]byte, bool) = welch.Fit

	_ func(f *field.Field, c api.Code, r []byte, e []int) ([]byte, bool)              = three.Massey
	_ func(f *field.Field, c api.Code, r []byte, e []int) ([]byte, bool)              = three.Euclid
	_ func(f *field.Field, c api.Code, r []byte, e []int) ([]byte, bool)              = three.Welch
	_ func(decoder int, f *field.Field, c api.Code, r []byte, e []int) ([]byte, bool) = three.By

	_ func(p api.Pick) api.Errno                                     = pick.Right
	_ func(c api.Code, erased int, p api.Pick) (api.Pick, api.Errno) = pick.Choose
	_ func() []api.Pick                                              = pick.All

	_ func() *codec.Desk                                                                               = codec.New
	_ func(_ *codec.Desk, c api.Code, p api.Pick, m []byte) ([]byte, api.Errno)                        = (*codec.Desk).Encode
	_ func(_ *codec.Desk, c api.Code, p api.Pick, r []byte, e []int) (api.Answer, api.Errno)           = (*codec.Desk).Decode
	_ func(_ *codec.Desk, c api.Code, p api.Pick, rs [][]byte, es [][]int) ([]api.Answer, []api.Errno) = (*codec.Desk).Many
	_ func(_ *codec.Desk, p api.Pick) int                                                              = (*codec.Desk).Asked
	_ func(_ *codec.Desk, backend int) int                                                             = (*codec.Desk).Made

	_ func(c api.Code, d int, s []byte) ([][]byte, api.Errno) = weave.Blocks
	_ func(c api.Code, d int, l [][]byte) ([]byte, api.Errno) = weave.Weave
	_ func(c api.Code, d int, t []byte) ([][]byte, api.Errno) = weave.Unweave
	_ func(c api.Code, d int, at int) (int, int)              = weave.Spot
	_ func(c api.Code, d int, block, i int) int               = weave.Place

	_ func(c api.Code, d int, n int) int                                               = stream.Size
	_ func(k *codec.Desk, c api.Code, d int, p api.Pick, s []byte) ([]byte, api.Errno) = stream.Encode
	_ func(t []byte) (api.Code, int, int, api.Errno)                                   = stream.Head
	_ func(k *codec.Desk, p api.Pick, t []byte, flags []int) ([]byte, api.Errno, int)  = stream.Decode

	_ func(t []byte, l []api.Fault) ([]byte, []int)                     = noise.Apply
	_ func(at int, b []byte) []api.Fault                                = noise.Burst
	_ func(c api.Code, d int, t, u []byte, flags []int) ([][]int, bool) = noise.Tally
	_ func(c api.Code, tally [][]int) bool                              = noise.Bears

	_ func(text string) string = play.Run
)
