package check_test

import (
	"bytes"
	"slices"
	"testing"

	"erratum/api"
	"erratum/check"
	"erratum/plain"
)

// same says whether two answers are.
func same(a, b api.Answer) bool {
	return bytes.Equal(a.Word, b.Word) && bytes.Equal(a.Msg, b.Msg) && slices.Equal(a.At, b.At)
}

// checkAnswer: the word, its last K bytes, and the places at which it is another one than what came.
func checkAnswer(t *testing.T, c api.Code, r, w []byte, at []int) {
	t.Helper()
	want := api.Answer{Word: w, Msg: w[c.N-c.K:], At: at}
	if got, errno := check.Answer(c, r, w); errno != api.OK || !same(got, want) {
		t.Fatalf("Answer(%v, %X, %X) = %v, %d, not %v", c, r, w, got, errno, want)
	}
}

// checkNoAnswer: Answer tells nothing but an error.
func checkNoAnswer(t *testing.T, c api.Code, r, w []byte, want api.Errno) {
	t.Helper()
	if got, errno := check.Answer(c, r, w); errno != want || !same(got, api.Answer{}) {
		t.Fatalf("Answer(%v, %X, %X) = %v, %d, not nothing and %d", c, r, w, got, errno, want)
	}
}

func TestAnswerKnown(t *testing.T) {
	c := api.Code{N: 4, K: 2, B: 0}
	for _, k := range []struct {
		r, w []byte
		msg  []byte
		at   []int
	}{
		{[]byte{2, 7, 1, 0}, []byte{2, 3, 1, 0}, []byte{1, 0}, []int{1}},
		{[]byte{2, 3, 1, 0}, []byte{2, 3, 1, 0}, []byte{1, 0}, nil},
		{[]byte{0, 3, 1, 6}, []byte{2, 3, 1, 0}, []byte{1, 0}, []int{0, 3}},
		{[]byte{0, 0, 0, 9}, []byte{2, 3, 1, 0}, []byte{1, 0}, []int{0, 1, 2, 3}},
		// It need be no word, and no nearer than any other one.
		{[]byte{2, 3, 1, 0}, []byte{2, 7, 1, 0}, []byte{1, 0}, []int{1}},
		{[]byte{1, 1, 1, 1}, []byte{9, 8, 7, 6}, []byte{7, 6}, []int{0, 1, 2, 3}},
		{[]byte{0, 0, 0, 0}, []byte{0, 0, 0, 0}, []byte{0, 0}, nil},
	} {
		if got, errno := check.Answer(c, k.r, k.w); errno != api.OK || !same(got, api.Answer{Word: k.w, Msg: k.msg, At: k.at}) {
			t.Errorf("Answer(%v, %X, %X) = %v, %d", c, k.r, k.w, got, errno)
		}
	}
}

// TestAnswer: of words for what came of them, of all codes, with any share of bytes wrong, and of lists that are no words.
func TestAnswer(t *testing.T) {
	for _, k := range knownCodes() {
		for seed, w := range append(slices.Clone(k.words), plain.Mixed(1, k.c.N), plain.Mixed(8, k.c.N)) {
			checkAnswer(t, k.c, w, w, nil)
			checkAnswer(t, k.c, slices.Clone(w), w, nil)
			for _, share := range plain.Shares(k.c) {
				r := plain.Through(w, share[0], share[1], seed).R
				checkAnswer(t, k.c, r, w, plain.Apart(r, w))
				checkAnswer(t, k.c, w, r, plain.Apart(r, w))
			}
			checkAnswer(t, k.c, plain.Xored(w, slices.Repeat([]byte{0x80}, k.c.N)), w, plain.AllPlaces(k.c))
			for i := range k.c.N {
				checkAnswer(t, k.c, plain.Added(w, i, byte(i)|1), w, []int{i})
			}
		}
	}
}

// TestAnswerOfSmallCodes: all codes with words of at most five bytes.
func TestAnswerOfSmallCodes(t *testing.T) {
	for _, c := range plain.SmallCodes(5) {
		w := plain.Word(c, plain.Mixed(c.B, c.K))
		r := plain.Added(w, c.B%c.N, 0x11)
		checkAnswer(t, c, r, w, []int{c.B % c.N})
	}
}

// TestAnswerOfOtherLengths: BadLength of the word, of what came, and of both, also where both are of one length.
func TestAnswerOfOtherLengths(t *testing.T) {
	for _, k := range knownCodes() {
		for i, w := range k.words {
			r := plain.Added(w, i*3%k.c.N, 1)
			for _, other := range append(plain.Resized(w), nil, []byte{}) {
				checkNoAnswer(t, k.c, r, other, api.BadLength)
				checkNoAnswer(t, k.c, other, w, api.BadLength)
				checkNoAnswer(t, k.c, other, other, api.BadLength)
			}
		}
		for _, other := range plain.OtherLengths(k.c.N, k.c.K, k.c.N-k.c.K) {
			checkNoAnswer(t, k.c, k.words[0], other, api.BadLength)
			checkNoAnswer(t, k.c, other, k.words[0], api.BadLength)
			checkNoAnswer(t, k.c, other, other, api.BadLength)
		}
	}
}

// TestAnswerOfCrooked: BadParams ahead of lengths that are others, and of ones that are as the code says.
func TestAnswerOfCrooked(t *testing.T) {
	for _, c := range plain.CrookedCodes() {
		lists := plain.AnyLengths(c)
		for i, w := range lists {
			checkNoAnswer(t, c, w, w, api.BadParams)
			checkNoAnswer(t, c, lists[(i+1)%len(lists)], w, api.BadParams)
			checkNoAnswer(t, c, nil, w, api.BadParams)
			checkNoAnswer(t, c, w, nil, api.BadParams)
		}
	}
}
