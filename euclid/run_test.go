package euclid_test

import (
	"bytes"
	"math"
	"slices"
	"testing"

	"erratum/api"
	"erratum/euclid"
	"erratum/field"
	"erratum/plain"
)

// checkTold: just these are told, after so many STEPS.
func checkTold(t *testing.T, name string, f *field.Field, a, b []byte, stop int, want row, steps int) {
	t.Helper()
	if left, times := euclid.Run(f, a, b, stop); !bytes.Equal(left, want.left) || !bytes.Equal(times, want.times) {
		t.Fatalf("%s: Run(%X, %X, %d) = %X, %X, not %X, %X", name, a, b, stop, left, times, want.left, want.times)
	}
	if n := euclid.Steps(f, a, b, stop); n != steps {
		t.Fatalf("%s: Steps(%X, %X, %d) = %d, not %d", name, a, b, stop, n, steps)
	}
}

// checkWords: what is told is what the chapter's words tell, at each of these stops.
func checkWords(t *testing.T, name string, f *field.Field, a, b []byte, rows []row, stops ...int) {
	t.Helper()
	for _, stop := range stops {
		n := stepsPlain(rows, stop)
		checkTold(t, name, f, a, b, stop, rows[n], n)
	}
}

// checkHolds: what is told is normal and short; and S and V times b differ by what a divides.
func checkHolds(t *testing.T, name string, f *field.Field, a, b []byte, stop int) {
	t.Helper()
	left, times := euclid.Run(f, a, b, stop)
	if !plain.Normal(left) || !plain.Normal(times) {
		t.Fatalf("%s: Run(%X, %X, %d) = %X, %X is not normal", name, a, b, stop, left, times)
	}
	if degree(left) >= max(stop, 0) {
		t.Fatalf("%s: Run(%X, %X, %d) = %X, %X is not short", name, a, b, stop, left, times)
	}
	apart := plain.Sum(left, plain.Product(times, b))
	if len(plain.Strip(a)) > 0 {
		_, apart = plain.Divided(apart, a)
	}
	if len(apart) > 0 {
		t.Fatalf("%s: Run(%X, %X, %d) = %X, %X: a does not divide what they differ by", name, a, b, stop, left, times)
	}
}

func TestRunKnown(t *testing.T) {
	for name, f := range fields() {
		for _, c := range []struct {
			a, b        []byte
			stop        int
			left, times []byte
			steps       int
		}{
			{[]byte{0, 0, 0, 0, 1}, []byte{1, 2, 4, 8}, 2, []byte{0xD8}, []byte{0xD8, 0xAD}, 1}, // Of x^4, 1 and 2x fall away, times 1/16.
			{[]byte{0, 0, 0, 0, 1}, []byte{1, 2, 4, 8}, 3, []byte{0xD8}, []byte{0xD8, 0xAD}, 1},
			{[]byte{0, 0, 0, 0, 1}, []byte{1, 2, 4, 8}, 1, []byte{0xD8}, []byte{0xD8, 0xAD}, 1},
			{[]byte{0, 0, 0, 0, 1}, []byte{1, 2, 4, 8}, 0, nil, []byte{0, 0, 0, 0, 16}, 2},
			{[]byte{0, 0, 0, 0, 1}, []byte{1, 2, 4, 8}, -1, nil, []byte{0, 0, 0, 0, 16}, 2},
			{[]byte{0, 0, 0, 0, 1}, []byte{1, 2, 4, 8}, 4, []byte{1, 2, 4, 8}, []byte{1}, 0},
			{[]byte{0, 0, 0, 0, 1}, []byte{1, 2, 4, 8}, 9, []byte{1, 2, 4, 8}, []byte{1}, 0},
			{[]byte{0, 0, 0, 0, 1, 0, 0}, []byte{1, 2, 4, 8, 0}, 2, []byte{0xD8}, []byte{0xD8, 0xAD}, 1},
			{[]byte{0, 0, 0, 0, 1, 0, 0}, []byte{1, 2, 4, 8, 0, 0}, 5, []byte{1, 2, 4, 8}, []byte{1}, 0},
			{[]byte{1, 0, 1}, []byte{1, 1}, 0, nil, []byte{1, 1}, 1}, // x + 1 divides both.
			{[]byte{1, 0, 1}, []byte{1, 1}, 1, nil, []byte{1, 1}, 1},
			{[]byte{1, 0, 1}, []byte{1, 1}, 2, []byte{1, 1}, []byte{1}, 0},
			{[]byte{3, 3, 1}, []byte{2, 1}, 1, []byte{1}, []byte{1, 1}, 1}, // Nothing with x divides both.
			{[]byte{3, 3, 1}, []byte{2, 1}, 0, nil, []byte{3, 3, 1}, 2},
			{[]byte{2, 3, 1}, []byte{2, 3, 1}, 2, nil, []byte{1}, 1}, // Of the same degree: the same, and another one.
			{[]byte{2, 3, 1}, []byte{2, 3, 1}, 3, []byte{2, 3, 1}, []byte{1}, 0},
			{[]byte{3, 3, 1}, []byte{2, 3, 1}, 2, []byte{1}, []byte{1}, 1},
			{[]byte{3, 3, 1}, []byte{2, 3, 1}, 0, nil, []byte{3, 3, 1}, 2},
			{[]byte{2, 1}, []byte{3, 3, 1}, 2, []byte{2, 1}, nil, 1}, // Of a lower degree: they change places first.
			{[]byte{2, 1}, []byte{3, 3, 1}, 3, []byte{3, 3, 1}, []byte{1}, 0},
			{[]byte{2, 1}, []byte{3, 3, 1}, 1, []byte{1}, []byte{1}, 2},
			{[]byte{2, 1}, []byte{3, 3, 1}, 0, nil, []byte{2, 1}, 3},
			{[]byte{5}, []byte{7}, 0, nil, []byte{0x68}, 1}, // 5/7.
			{[]byte{5}, []byte{7}, 1, []byte{7}, []byte{1}, 0},
			{[]byte{5}, []byte{1, 1}, 0, nil, []byte{1}, 2},
		} {
			checkHolds(t, name, f, c.a, c.b, c.stop)
			checkTold(t, name, f, c.a, c.b, c.stop, row{c.left, c.times}, c.steps)
		}
	}
}

// TestRunOfNoughts: of a b that is 0 there is no STEP; of an a that is 0 one, after which nothing is left, and nothing times b that is.
func TestRunOfNoughts(t *testing.T) {
	t.Parallel()
	noughts := [][]byte{nil, {}, {0}, {0, 0, 0}, make([]byte, 70), make([]byte, 2000)}
	for name, f := range fields() {
		for _, no := range noughts {
			for _, p := range append(plain.Polys(), make([]byte, 1500)) {
				for _, stop := range stops(p, no) {
					checkTold(t, name, f, p, no, stop, row{nil, []byte{1}}, 0)
					normal := plain.Strip(p)
					if len(normal) > 0 && degree(normal) >= stop {
						checkTold(t, name, f, no, p, stop, row{nil, nil}, 1)
					} else {
						checkTold(t, name, f, no, p, stop, row{normal, []byte{1}}, 0)
					}
				}
			}
		}
	}
}

// TestRunOfAllShort: all short lists with all short ones, and all stops round them, held against the chapter's words.
func TestRunOfAllShort(t *testing.T) {
	t.Parallel()
	for _, lists := range [][][]byte{plain.AllShort(3, byte(0), 1, 0x8E), plain.AllShort(5, byte(0), 1)} {
		for _, a := range lists {
			for _, b := range lists {
				rows := rowsPlain(a, b)
				for name, f := range fields() {
					checkWords(t, name, f, a, b, rows, -1, 0, 1, 2, 3, 4, 5)
				}
			}
		}
	}
}

// TestRun: all polynomials with all, so of each order, and each with itself.
func TestRun(t *testing.T) {
	t.Parallel()
	for _, a := range plain.Polys() {
		for _, b := range plain.Polys() {
			rows := rowsPlain(a, b)
			d := degree(plain.Strip(b))
			for name, f := range fields() {
				checkWords(t, name, f, a, b, rows, d/2, d, d+1)
				if len(a)+len(b) < 300 || name == "Table" {
					checkWords(t, name, f, a, b, rows, 0)
				}
			}
		}
	}
}

// TestRunHolds: what holds of all that is told, of all polynomials with all.
func TestRunHolds(t *testing.T) {
	t.Parallel()
	for _, a := range plain.Polys() {
		for i, b := range plain.Polys() {
			for name, f := range fields() {
				checkHolds(t, name, f, a, b, len(b)/2)
				if len(a)+len(b) > 200 {
					continue
				}
				for _, stop := range []int{-1, 0, 1, i, len(b) - 1, len(b)} {
					checkHolds(t, name, f, a, b, stop)
				}
			}
		}
	}
}

// TestRunOfStops: each stop from below 0 to above both degrees, and as far off as an int is; a greater one takes no more STEPS.
func TestRunOfStops(t *testing.T) {
	t.Parallel()
	long, short := append(plain.Mixed(2, 50), 3), append(plain.Mixed(8, 31), 0xEE)
	for name, f := range fields() {
		for _, c := range [][2][]byte{{long, short}, {short, long}, {long, append(plain.Mixed(9, 50), 5)}, {plain.Alone(1, 52), long}, {plain.Product(long, short), plain.Product(short, short)},
			{plain.Behind(long, 9), plain.Behind(short, 30)}, {nil, short}, {long, nil}, {nil, nil}, {{4}, long}, {long, {4}}, {plain.Alone(2, 60), plain.Alone(9, 20)}} {
			a, b := c[0], c[1]
			rows := rowsPlain(a, b)
			most := math.MaxInt
			for _, stop := range append(slices.Sorted(slices.Values(stops(a, b))), math.MaxInt) {
				checkHolds(t, name, f, a, b, stop)
				checkWords(t, name, f, a, b, rows, stop)
			}
			for stop := -3; stop < 90; stop++ {
				n := euclid.Steps(f, a, b, stop)
				if n > most {
					t.Fatalf("%s: Steps(%X, %X, %d) = %d, but %d by a smaller stop", name, a, b, stop, n, most)
				}
				most = n
				checkWords(t, name, f, a, b, rows, stop)
			}
			if most != 0 {
				t.Errorf("%s: Steps of %X and %X, above both degrees, are %d", name, a, b, most)
			}
		}
	}
}

// TestRunNoughtsBehind: lists with noughts behind tell what they tell without.
func TestRunNoughtsBehind(t *testing.T) {
	t.Parallel()
	for name, f := range fields() {
		for seed := range 30 {
			a, b := append(plain.Mixed(seed, seed), 2), append(plain.Mixed(seed+9, 15), 7)
			for _, stop := range []int{-1, 0, 3, 7, 14, 15, 16, 31} {
				left, times := euclid.Run(f, a, b, stop)
				n := euclid.Steps(f, a, b, stop)
				for _, k := range []int{1, 2, 64, 300} {
					checkTold(t, name, f, plain.Behind(a, k), b, stop, row{left, times}, n)
					checkTold(t, name, f, a, plain.Behind(b, k), stop, row{left, times}, n)
					checkTold(t, name, f, plain.Behind(a, k), plain.Behind(b, 5*k), stop, row{left, times}, n)
				}
			}
		}
	}
}

// TestRunOfQuotients: what is put together of quotients and a last remainder takes as many STEPS as there are quotients; at a stop just above each remainder's degree that one is told, with what the quotients make of 1.
func TestRunOfQuotients(t *testing.T) {
	t.Parallel()
	for name, f := range fields() {
		for _, quotients := range manyQuotients() {
			for _, last := range [][]byte{{1}, {0x53}, {3, 1}, {0, 0, 9}, append(plain.Mixed(4, 20), 2)} {
				a, b := built(quotients, last)
				if n := euclid.Steps(f, a, b, 0); n != len(quotients) {
					t.Fatalf("%s: Steps(%X, %X, 0) = %d, but of %d quotients", name, a, b, n, len(quotients))
				}
				older, times := []byte{}, []byte{1}
				for k := range len(quotients) + 1 {
					_, left := built(quotients[k:], last)
					want := row{left, times}
					checkTold(t, name, f, a, b, degree(left)+1, want, k)
					if _, ahead := built(quotients[max(k, 1)-1:], last); k > 0 {
						checkTold(t, name, f, a, b, degree(ahead), want, k) // As much as may be, for this STEP to be done.
					}
					if k < len(quotients) {
						older, times = times, plain.Sum(older, plain.Product(quotients[k], times))
					}
				}
			}
		}
	}
}

// TestRunOfDivisors: of products with a factor in common, and of such with none, that factor is left, times a byte, where one STEP more would leave nothing; then b is to be multiplied by what a has beside it.
func TestRunOfDivisors(t *testing.T) {
	t.Parallel()
	for name, f := range fields() {
		for _, c := range []struct{ common, a, b []byte }{
			{nil, nil, nil}, {nil, []byte{1, 2, 3}, []byte{4, 5}}, {nil, []byte{9}, []byte{4, 5, 6, 7}}, {nil, nil, []byte{8}}, {[]byte{1}, []byte{2}, []byte{3}}, {[]byte{0, 0}, []byte{9}, []byte{7}},
			{[]byte{1, 2, 3}, nil, nil}, {[]byte{1, 2, 3}, []byte{4, 5, 6, 7}, nil}, {[]byte{1, 2, 3}, nil, []byte{4, 5, 6}}, {[]byte{5, 5, 5, 9}, []byte{1, 1, 1}, []byte{2, 2, 2}},
			{[]byte{0x1D, 0x80}, plain.Mixed(3, 30), []byte{0xFE, 0xFD, 0xFC}}, {[]byte{0x80, 0xFF, 0x1D}, []byte{1, 2, 4, 8}, []byte{3, 6, 12, 24}},
		} {
			common, own := plain.FromZeros(c.common...), plain.Scaled(0x35, plain.FromZeros(c.a...))
			a, b := plain.Product(common, own), plain.Scaled(0xA6, plain.Product(common, plain.FromZeros(c.b...)))
			if left, _ := euclid.Run(f, a, b, len(common)); !bytes.Equal(plain.Monic(left), plain.Monic(common)) {
				t.Errorf("%s: Run(%X, %X, %d) leaves %X, not a multiple of %X", name, a, b, len(common), left, common)
			}
			for stop := range len(common) {
				left, times := euclid.Run(f, a, b, stop)
				if len(left) > 0 || !bytes.Equal(plain.Monic(times), plain.Monic(own)) {
					t.Errorf("%s: Run(%X, %X, %d) = %X, %X, not nothing and a multiple of %X", name, a, b, stop, left, times, own)
				}
			}
		}
	}
}

// TestRunLong: of higher degrees than poly.Shift tells.
func TestRunLong(t *testing.T) {
	t.Parallel()
	a, b := append(plain.Mixed(3, 1400), 7), append(plain.Mixed(8, 1300), 9)
	power := plain.Alone(1, 1500)
	rows, powerRows := rowsPlain(a, b), rowsPlain(power, a)
	for name, f := range fields() {
		checkWords(t, name, f, a, b, rows, 1301, 1300, 1299, 1000)
		checkWords(t, name, f, b, a, rowsPlain(b, a), 1400, 1300)
		checkWords(t, name, f, power, a, powerRows, 1400, 1300)
		checkWords(t, name, f, power, plain.Alone(5, 1200), rowsPlain(power, plain.Alone(5, 1200)), 1200, 0)
		checkTold(t, name, f, plain.Alone(3, 4000), []byte{1}, 0, row{nil, plain.Alone(3, 4000)}, 1)
	}
	checkWords(t, "Table", field.Of(api.Table), a, b, rows, 100, 0)
	checkWords(t, "Table", field.Of(api.Table), power, a, powerRows, 700, 0)
}

// TestRunByNone: a nil Field tells nothing, 0, whether a STEP is to be done or not.
func TestRunByNone(t *testing.T) {
	for _, a := range plain.Polys() {
		for _, b := range plain.Polys() {
			for _, stop := range []int{math.MinInt, -1, 0, 1, 5, 300, math.MaxInt} {
				checkTold(t, "nil", nil, a, b, stop, row{}, 0)
			}
		}
	}
}
