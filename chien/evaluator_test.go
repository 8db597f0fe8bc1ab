package chien_test

import (
	"bytes"
	"slices"
	"testing"

	"erratum/chien"
	"erratum/field"
	"erratum/plain"
	"erratum/poly"
)

// checkEvaluator: just this is told; it is NORMAL, and no longer than s.
func checkEvaluator(t *testing.T, name string, f *field.Field, s, locator, want []byte) {
	t.Helper()
	got := chien.Evaluator(f, s, locator)
	if !bytes.Equal(got, want) {
		t.Fatalf("%s: Evaluator(%X, %X) = %X, not %X", name, s, locator, got, want)
	}
	if !plain.Normal(got) || len(got) > len(s) {
		t.Fatalf("%s: Evaluator(%X, %X) = %X is not normal, or too long", name, s, locator, got)
	}
}

func TestEvaluatorKnown(t *testing.T) {
	for name, f := range fields() {
		for _, c := range []struct{ s, locator, want []byte }{
			{nil, nil, nil},
			{[]byte{}, []byte{1}, nil},
			{nil, []byte{1, 2, 3}, nil},
			{[]byte{5}, nil, nil},
			{[]byte{5, 6, 7}, []byte{}, nil},
			{[]byte{5, 6, 7}, []byte{0, 0, 0, 0, 0}, nil},
			{[]byte{0, 0, 0}, []byte{1, 2}, nil},
			{[]byte{0}, []byte{0}, nil},
			{[]byte{5}, []byte{1}, []byte{5}},
			{[]byte{5}, []byte{1, 9, 9}, []byte{5}},
			{[]byte{5, 6, 7}, []byte{1}, []byte{5, 6, 7}},
			{[]byte{5, 6, 0}, []byte{1}, []byte{5, 6}},
			{[]byte{5, 0, 0, 0}, []byte{1, 3}, []byte{5, 15}},
			{[]byte{5, 0, 0, 0}, []byte{1, 3, 0, 0}, []byte{5, 15}},
			{[]byte{5, 6, 7}, []byte{2}, []byte{10, 12, 14}},
			{[]byte{5, 6, 7}, []byte{0, 1}, []byte{0, 5, 6}},
			{[]byte{5, 6, 7}, []byte{0, 0, 1}, []byte{0, 0, 5}},
			{[]byte{5, 6, 7}, []byte{0, 0, 0, 1}, nil},
			{[]byte{0, 5, 6}, []byte{0, 0, 1}, nil}, // All that it has lies from x^3 on.
			{[]byte{1, 2, 4, 8}, []byte{1, 2}, []byte{1}},
			{[]byte{3, 5, 9, 17}, []byte{1, 3, 2}, []byte{3}},
			{[]byte{4, 8}, []byte{1, 2}, []byte{4}},
			{[]byte{4, 8}, []byte{1, 3, 2}, []byte{4, 4}},
			{[]byte{1, 0}, []byte{1, 3, 2}, []byte{1, 3}}, // As many as s has, its noughts among them.
			{[]byte{1}, []byte{1, 3, 2}, []byte{1}},
			{[]byte{1, 0, 0}, []byte{1, 3, 2}, []byte{1, 3, 2}},
			{[]byte{1, 0, 0, 0}, []byte{1, 3, 2}, []byte{1, 3, 2}},
			{[]byte{0x80, 0x80}, []byte{0, 2}, []byte{0, 0x1D}},
		} {
			checkEvaluator(t, name, f, c.s, c.locator, c.want)
		}
	}
}

// TestEvaluatorOfPolys: of lists of many lengths, either one the longer, with noughts behind and without.
func TestEvaluatorOfPolys(t *testing.T) {
	t.Parallel()
	for _, s := range plain.Polys() {
		for _, l := range plain.Polys() {
			want := evaluatorPlain(s, l)
			for name, f := range fields() {
				checkEvaluator(t, name, f, s, l, want)
			}
		}
	}
}

// TestEvaluatorOfAllShort: of all lists of up to four bytes of a few; it is poly's product, cut.
func TestEvaluatorOfAllShort(t *testing.T) {
	t.Parallel()
	lists := plain.AllShort(4, byte(0), 1, 0xC3)
	for name, f := range fields() {
		for _, s := range lists {
			for _, l := range lists {
				checkEvaluator(t, name, f, s, l, evaluatorPlain(s, l))
				checkEvaluator(t, name, f, s, l, poly.Cut(poly.Mul(f, s, l), len(s)))
			}
		}
	}
}

// TestEvaluatorLong: of more bytes than any code has, and than poly.Shift tells.
func TestEvaluatorLong(t *testing.T) {
	t.Parallel()
	s, l := append(plain.Mixed(3, 1600), 7), append(plain.Mixed(8, 1200), 9)
	for name, f := range fields() {
		checkEvaluator(t, name, f, s, l, evaluatorPlain(s, l))
		checkEvaluator(t, name, f, l, s, evaluatorPlain(l, s))
		checkEvaluator(t, name, f, plain.Behind(l, 3000), s, plain.Product(l, s))
		checkEvaluator(t, name, f, s, plain.Alone(3, 1599), plain.Cut(plain.Product(s, plain.Alone(3, 1599)), 1601))
		checkEvaluator(t, name, f, s, plain.Alone(3, 1601), nil)
	}
}

// TestEvaluatorOfWrong: of what wrong bytes are, each times the power B of its place's point, and times the locator of all other places, it is the sum; its degree is below how many they are.
func TestEvaluatorOfWrong(t *testing.T) {
	t.Parallel()
	for _, k := range knownWrongs() {
		var want []byte
		for n, i := range k.places {
			others, _ := plain.Divided(k.locator, []byte{1, plain.Point(i)})
			want = plain.Sum(want, plain.Scaled(plain.Mul(k.values[n], plain.Point(i*k.c.B)), others))
		}
		if len(want) > len(k.places) {
			t.Fatalf("%v: %X is longer than there are places", k.c, want)
		}
		for name, f := range fields() {
			checkEvaluator(t, name, f, k.s, k.locator, want)
			checkEvaluator(t, name, f, k.s, plain.Behind(k.locator, 3), want)
		}
	}
}

// TestEvaluatorOfNoughtsBehind: behind the locator they change nothing, behind s there is as much more of the product.
func TestEvaluatorOfNoughtsBehind(t *testing.T) {
	t.Parallel()
	for name, f := range fields() {
		for i, s := range plain.Polys() {
			l := slices.Concat([]byte{1}, plain.Mixed(i, 9), []byte{4})
			for _, n := range []int{1, 2, 10, 300} {
				checkEvaluator(t, name, f, s, plain.Behind(l, n), evaluatorPlain(s, l))
				checkEvaluator(t, name, f, plain.Behind(s, n), l, plain.Cut(plain.Product(s, l), len(s)+n))
			}
		}
	}
}

// TestEvaluatorByNone: a nil Field tells nothing.
func TestEvaluatorByNone(t *testing.T) {
	for _, s := range plain.Polys() {
		for _, l := range plain.Polys() {
			checkEvaluator(t, "nil", nil, s, l, nil)
		}
		checkEvaluator(t, "nil", nil, s, []byte{1}, nil)
	}
}
