package encode_test

import (
	"bytes"
	"slices"
	"sync"
	"testing"

	"erratum/api"
	"erratum/encode"
	"erratum/field"
	"erratum/plain"
)

// checkEncode: Encode tells nothing but an error.
func checkEncode(t *testing.T, name string, f *field.Field, c api.Code, m []byte, want api.Errno) {
	t.Helper()
	if w, e := encode.Encode(f, c, m); e != want || len(w) != 0 {
		t.Errorf("%s: Encode(%v, %d bytes) = %X, %d, not nothing and %d", name, c, len(m), w, e, want)
	}
}

// checkMessage: Message tells nothing but an error.
func checkMessage(t *testing.T, c api.Code, w []byte, want api.Errno) {
	t.Helper()
	if m, e := encode.Message(c, w); e != want || len(m) != 0 {
		t.Errorf("Message(%v, %d bytes) = %X, %d, not nothing and %d", c, len(w), m, e, want)
	}
}

// TestCrooked: a code that is not right is told ahead of a length that is another one, and of one that is not.
func TestCrooked(t *testing.T) {
	for _, c := range plain.CrookedCodes() {
		for _, l := range plain.AnyLengths(c) {
			for name, f := range fields() {
				checkEncode(t, name, f, c, l, api.BadParams)
			}
			checkEncode(t, "nil", nil, c, l, api.BadParams)
			checkMessage(t, c, l, api.BadParams)
		}
	}
}

// TestBadLength: messages and words of another length, also ones as long as the other of both is.
func TestBadLength(t *testing.T) {
	for _, c := range append(plain.Codes(), plain.SmallCodes(4)...) {
		for _, m := range plain.OtherLengths(c.K, c.N, c.N-1, c.N-c.K) {
			for name, f := range fields() {
				checkEncode(t, name, f, c, m, api.BadLength)
			}
		}
		for _, w := range plain.OtherLengths(c.N, c.K, c.N-c.K) {
			checkMessage(t, c, w, api.BadLength)
		}
	}
}

// TestBadLengthOfWords: words with bytes more or fewer, noughts as well as others, ahead and behind.
func TestBadLengthOfWords(t *testing.T) {
	for _, k := range knownCodes() {
		for i, w := range k.words {
			m := k.messages[i]
			for _, other := range plain.Resized(w) {
				checkMessage(t, k.c, other, api.BadLength)
			}
			for name, f := range fields() {
				for _, other := range append(plain.Resized(m), w) {
					checkEncode(t, name, f, k.c, other, api.BadLength)
				}
			}
		}
	}
}

// TestNilField: nothing is told, and BadParams, also where the length is another one.
func TestNilField(t *testing.T) {
	for _, k := range knownCodes() {
		for _, m := range append(plain.OtherLengths(k.c.K, k.c.N), k.messages...) {
			checkEncode(t, "nil", nil, k.c, m, api.BadParams)
		}
	}
	for _, c := range plain.SmallCodes(4) {
		checkEncode(t, "nil", nil, c, make([]byte, c.K), api.BadParams)
		checkEncode(t, "nil", nil, c, nil, api.BadParams)
	}
}

// told are the word of a message, and the message of a list as long as words are.
func told(f *field.Field, c api.Code, m, w []byte) map[string][]byte {
	wordTold, _ := encode.Encode(f, c, m)
	messageTold, _ := encode.Message(c, w)
	return map[string][]byte{"Encode": wordTold, "Message": messageTold}
}

// TestToldIsNew: what is told may be written to its capacity's end; what was handed in, what was told beside it, and what is told again, stays.
func TestToldIsNew(t *testing.T) {
	for name, f := range fields() {
		for _, k := range knownCodes() {
			for i, m := range k.messages {
				wholeM, innerM := plain.Framed(m)
				wholeW, innerW := plain.Framed(k.words[i])
				wasM, wasW := slices.Clone(wholeM), slices.Clone(wholeW)
				first, second := told(f, k.c, innerM, innerW), told(f, k.c, innerM, innerW)
				want := plain.Copied(first)
				for _, l := range second {
					plain.Spoil(l)
				}
				if !bytes.Equal(wholeM, wasM) || !bytes.Equal(wholeW, wasW) {
					t.Fatalf("%s: of %v, %X was changed, or what was handed in is handed out", name, k.c, m)
				}
				if call, same := plain.Alike(want, first); !same {
					t.Errorf("%s: %s of %v shares memory with what was told before", name, call, k.c)
				}
				if call, same := plain.Alike(want, told(f, k.c, innerM, innerW)); !same {
					t.Errorf("%s: %s of %v is another one, told again", name, call, k.c)
				}
			}
		}
	}
}

// TestHandedInIsNotKept: what was told stays, and so does what is told later, whatever becomes of what was handed in.
func TestHandedInIsNotKept(t *testing.T) {
	for name, f := range fields() {
		for _, k := range knownCodes() {
			for i, m := range k.messages {
				handedM, handedW := slices.Clone(m), slices.Clone(k.words[i])
				first := told(f, k.c, handedM, handedW)
				plain.Spoil(handedM)
				plain.Spoil(handedW)
				want := map[string][]byte{"Encode": k.words[i], "Message": m}
				if call, same := plain.Alike(want, first); !same {
					t.Errorf("%s: %s of %v shares memory with what was handed in", name, call, k.c)
				}
				if call, same := plain.Alike(want, told(f, k.c, m, k.words[i])); !same {
					t.Errorf("%s: %s of %v hangs on what was handed in before", name, call, k.c)
				}
			}
		}
	}
}

// TestNothingBehindIsRead: what lies behind the length changes nothing, and is not taken for what the length lacks.
func TestNothingBehindIsRead(t *testing.T) {
	for name, f := range fields() {
		for _, k := range knownCodes() {
			for i, m := range k.messages {
				_, innerM := plain.Framed(m)
				_, innerW := plain.Framed(k.words[i])
				if call, same := plain.Alike(told(f, k.c, m, k.words[i]), told(f, k.c, innerM, innerW)); !same {
					t.Errorf("%s: %s of %v reads behind %X", name, call, k.c, m)
				}
				checkEncode(t, name, f, k.c, m[:k.c.K-1], api.BadLength)
				checkMessage(t, k.c, k.words[i][:k.c.N-1], api.BadLength)
			}
		}
	}
}

// TestWrongOnesStay: what an error is told of is as it was, too.
func TestWrongOnesStay(t *testing.T) {
	for _, c := range append(plain.Codes(), plain.CrookedCodes()...) {
		for _, l := range plain.AnyLengths(c) {
			whole, inner := plain.Framed(l)
			was := slices.Clone(whole)
			for _, f := range fields() {
				encode.Encode(f, c, inner)
			}
			encode.Encode(nil, c, inner)
			encode.Message(c, inner)
			if !bytes.Equal(whole, was) {
				t.Errorf("of %v, %d bytes that were handed in were changed", c, len(l))
			}
		}
	}
}

// TestSeveralAtATime: many ask by one field; run with -race it tells more.
func TestSeveralAtATime(t *testing.T) {
	k := knownCodes()[17]
	for name, f := range fields() {
		var all sync.WaitGroup
		wrong := make([]bool, 8)
		for who := range wrong {
			all.Go(func() {
				i := who % len(k.messages)
				want := map[string][]byte{"Encode": k.words[i], "Message": k.messages[i]}
				_, same := plain.Alike(want, told(f, k.c, k.messages[i], k.words[i]))
				wrong[who] = !same
			})
		}
		all.Wait()
		if slices.Contains(wrong, true) {
			t.Errorf("%s: several at a time were told otherwise", name)
		}
	}
}
