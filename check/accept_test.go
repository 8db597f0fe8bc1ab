package check_test

import (
	"bytes"
	"slices"
	"testing"

	"erratum/api"
	"erratum/check"
	"erratum/field"
	"erratum/plain"
)

// checkAccept: Accept says so.
func checkAccept(t *testing.T, name string, f *field.Field, c api.Code, r []byte, e []int, w []byte, want bool) {
	t.Helper()
	if got := check.Accept(f, c, r, e, w); got != want {
		t.Fatalf("%s: Accept(%v, %X, %v, %X) is %v", name, c, r, e, w, got)
	}
}

func TestExample(t *testing.T) {
	for name, f := range fields() {
		checkAccept(t, name, f, api.Code{N: 4, K: 2, B: 0}, []byte{2, 7, 1, 0}, nil, []byte{2, 3, 1, 0}, true)
	}
}

func TestAcceptKnown(t *testing.T) {
	c, w := api.Code{N: 4, K: 2, B: 0}, []byte{2, 3, 1, 0}
	for name, f := range fields() {
		for _, k := range []struct {
			r    []byte
			e    []int
			want bool
		}{
			{[]byte{2, 3, 1, 0}, nil, true},
			{[]byte{2, 3, 1, 0}, []int{}, true},
			{[]byte{9, 3, 1, 0}, nil, true},
			{[]byte{2, 3, 1, 9}, nil, true},
			{[]byte{2, 7, 1, 9}, nil, false},
			{[]byte{2, 7, 1, 0}, []int{1}, true},
			{[]byte{2, 7, 1, 0}, []int{0}, false},
			{[]byte{2, 7, 1, 0}, []int{1, 3}, true},
			{[]byte{2, 7, 1, 9}, []int{1, 3}, true},
			{[]byte{2, 7, 1, 9}, []int{3, 1}, true},
			{[]byte{2, 7, 1, 9}, []int{1}, false},
			{[]byte{2, 3, 1, 0}, []int{1, 3}, true},
			{[]byte{2, 3, 1, 0}, []int{0, 1, 3}, false},
			{[]byte{2, 3, 1, 0}, []int{0, 1, 2, 3}, false},
			{[]byte{2, 7, 1, 0}, []int{1, 1}, false},
			{[]byte{2, 3, 1, 0}, []int{-1}, false},
			{[]byte{2, 3, 1, 0}, []int{4}, false},
			{[]byte{2, 3, 1}, nil, false},
			{[]byte{2, 3, 1, 0, 0}, nil, false},
			{nil, nil, false},
		} {
			checkAccept(t, name, f, c, k.r, k.e, w, k.want)
		}
		// No byte is unlike, and it is no word.
		checkAccept(t, name, f, c, []byte{2, 7, 1, 0}, nil, []byte{2, 7, 1, 0}, false)
		checkAccept(t, name, f, c, []byte{2, 7, 1, 0}, []int{1}, []byte{2, 7, 1, 0}, false)
		// It is a word of N 4, K 2, B 0, and none of others.
		checkAccept(t, name, f, api.Code{N: 4, K: 2, B: 1}, w, nil, w, false)
		checkAccept(t, name, f, api.Code{N: 4, K: 1, B: 0}, w, nil, w, false)
		checkAccept(t, name, f, api.Code{N: 4, K: 3, B: 0}, w, nil, w, true)
		checkAccept(t, name, f, api.Code{N: 4, K: 3, B: 1}, w, nil, w, true)
		checkAccept(t, name, f, api.Code{N: 4, K: 3, B: 0}, []byte{2, 7, 1, 0}, nil, w, false)
		checkAccept(t, name, f, api.Code{N: 4, K: 3, B: 0}, []byte{2, 7, 1, 0}, []int{1}, w, true)
		checkAccept(t, name, f, api.Code{N: 4, K: 4, B: 0}, w, nil, w, false)
	}
}

// checkShare: with so many bytes wrong and erased the word is accepted, if they are no more than may be, whatever order the places are in.
func checkShare(t *testing.T, name string, f *field.Field, c api.Code, w []byte, wrong, erased, seed int) {
	t.Helper()
	if wrong < 0 || wrong+erased > c.N {
		return
	}
	got := plain.Through(w, wrong, erased, seed)
	checkAccept(t, name, f, c, got.R, got.E, w, plain.Mended(c, wrong, erased))
	slices.Sort(got.E)
	checkAccept(t, name, f, c, got.R, got.E, w, plain.Mended(c, wrong, erased))
}

// TestAccept: of words of all kinds of codes, as many wrong and erased as may be, fewer, and one of either more.
func TestAccept(t *testing.T) {
	t.Parallel()
	for name, f := range fields() {
		t.Run(name, func(t *testing.T) {
			t.Parallel()
			for _, k := range knownCodes() {
				for seed, share := range plain.Shares(k.c) {
					w := k.words[seed%len(k.words)]
					for _, more := range [][2]int{{0, 0}, {1, 0}, {0, 1}, {-1, 0}, {-1, 1}, {-1, 2}, {-1, 3}} {
						checkShare(t, name, f, k.c, w, share[0]+more[0], share[1]+more[1], seed)
					}
				}
			}
		})
	}
}

// TestAcceptOfNoneWrong: a word for itself, with none erased and with some, up to as many as Space.
func TestAcceptOfNoneWrong(t *testing.T) {
	t.Parallel()
	for name, f := range fields() {
		for _, k := range knownCodes() {
			for i, w := range k.words {
				checkAccept(t, name, f, k.c, w, nil, w, true)
				checkAccept(t, name, f, k.c, slices.Clone(w), []int{i * 7 % k.c.N}, w, true)
			}
			for _, e := range plain.Places(k.c) {
				checkAccept(t, name, f, k.c, k.words[0], e, k.words[0], plain.Mended(k.c, 0, len(e)))
			}
		}
	}
}

// TestAcceptOfEachPlace: one byte wrong, or erased, at each place, by whatever byte; and both at each two.
func TestAcceptOfEachPlace(t *testing.T) {
	t.Parallel()
	for name, f := range fields() {
		for _, c := range []api.Code{{N: 7, K: 5, B: 254}, {N: 8, K: 5, B: 0}, {N: 20, K: 19, B: 100}, {N: 255, K: 253, B: 1}} {
			w := plain.Words(c)[3]
			for at := range c.N {
				r := plain.Added(w, at, byte(at)|1)
				checkAccept(t, name, f, c, r, nil, w, plain.Mended(c, 1, 0))
				checkAccept(t, name, f, c, r, []int{at}, w, true)
				for _, other := range []int{0, (at + 1) % c.N, c.N - 1} {
					if other != at {
						checkAccept(t, name, f, c, r, []int{other}, w, plain.Mended(c, 1, 1))
						checkAccept(t, name, f, c, r, []int{other, at}, w, plain.Mended(c, 0, 2))
					}
				}
			}
			for b := range 256 {
				checkAccept(t, name, f, c, plain.Added(w, 2, byte(b)), nil, w, b == 0 || plain.Mended(c, 1, 0))
			}
		}
	}
}

// TestAcceptOfNoWord: a list that is no word is none of whatever came, also if that is the list itself, and where it is unlike a word is erased.
func TestAcceptOfNoWord(t *testing.T) {
	t.Parallel()
	for name, f := range fields() {
		for _, k := range knownCodes() {
			for i, w := range k.words {
				at := i * 7 % k.c.N
				list := plain.Added(w, at, byte(i)|0x20)
				checkAccept(t, name, f, k.c, list, nil, list, false)
				checkAccept(t, name, f, k.c, list, []int{at}, list, false)
				checkAccept(t, name, f, k.c, w, nil, list, false)
				checkAccept(t, name, f, k.c, w, []int{at}, list, false)
			}
		}
	}
}

// TestAcceptOfAllLists: of all lists of two bytes just those that are words and near enough.
func TestAcceptOfAllLists(t *testing.T) {
	t.Parallel()
	for name, f := range fields() {
		t.Run(name, func(t *testing.T) {
			t.Parallel()
			for _, c := range []api.Code{{N: 2, K: 1, B: 0}, {N: 2, K: 1, B: 254}} {
				r := []byte{0x35, 0xC1}
				for _, e := range [][]int{nil, {0}, {1}} {
					plain.AllPairs(func(a, b byte) {
						w := []byte{a, b}
						checkAccept(t, name, f, c, r, e, w, plain.Has(c, w) && plain.Mended(c, wrongPlain(r, w, e), len(e)))
					})
				}
			}
		})
	}
}

// TestAcceptOfSmallCodes: all codes with words of at most four bytes, at the bound of their Space and above it.
func TestAcceptOfSmallCodes(t *testing.T) {
	t.Parallel()
	for name, f := range fields() {
		for _, c := range plain.SmallCodes(4) {
			w := plain.Word(c, plain.Mixed(c.B, c.K))
			for wrong := range c.N + 1 {
				for erased := range c.N + 1 - wrong {
					got := plain.Through(w, wrong, erased, c.B)
					checkAccept(t, name, f, c, got.R, got.E, w, plain.Mended(c, wrong, erased))
				}
			}
		}
	}
}

// TestAcceptOfCrookedPlaces: numbers that are no places, or stand twice, though no byte be wrong.
func TestAcceptOfCrookedPlaces(t *testing.T) {
	for name, f := range fields() {
		for _, k := range knownCodes() {
			for i, e := range plain.CrookedPlaces(k.c) {
				w := k.words[i%len(k.words)]
				checkAccept(t, name, f, k.c, w, e, w, false)
				checkAccept(t, name, f, k.c, plain.Added(w, i%k.c.N, 3), e, w, false)
			}
		}
	}
}

// TestAcceptOfOtherLengths: what came, or the word, or both, with bytes more or fewer.
func TestAcceptOfOtherLengths(t *testing.T) {
	for name, f := range fields() {
		for _, k := range knownCodes() {
			for i, w := range k.words {
				r := plain.Added(w, i*3%k.c.N, 1)
				for _, other := range append(plain.Resized(w), nil, []byte{}) {
					for _, e := range [][]int{nil, {i * 3 % k.c.N}} {
						checkAccept(t, name, f, k.c, r, e, other, false)
						checkAccept(t, name, f, k.c, other, e, w, false)
						checkAccept(t, name, f, k.c, other, e, other, false)
					}
				}
			}
			for _, other := range plain.OtherLengths(k.c.N, k.c.K, k.c.N-k.c.K) {
				checkAccept(t, name, f, k.c, k.words[0], nil, other, false)
				checkAccept(t, name, f, k.c, other, nil, k.words[0], false)
				checkAccept(t, name, f, k.c, other, nil, other, false)
			}
		}
	}
}

// TestAcceptOfCrooked: of a code that is not right nothing is accepted.
func TestAcceptOfCrooked(t *testing.T) {
	for _, c := range plain.CrookedCodes() {
		lists := plain.AnyLengths(c)
		for i, w := range lists {
			for name, f := range fields() {
				for _, e := range [][]int{nil, {0}, {-1, 4}} {
					checkAccept(t, name, f, c, w, e, w, false)
					checkAccept(t, name, f, c, lists[(i+1)%len(lists)], e, w, false)
				}
			}
		}
	}
}

// TestAcceptByNone: by a nil Field nothing is accepted, not even a word for itself.
func TestAcceptByNone(t *testing.T) {
	for _, k := range knownCodes() {
		for _, w := range slices.Concat(k.words, [][]byte{plain.Mixed(1, k.c.N), nil}) {
			checkAccept(t, "nil", nil, k.c, w, nil, w, false)
			checkAccept(t, "nil", nil, k.c, w, []int{0}, w, false)
			checkAccept(t, "nil", nil, k.c, k.words[0], []int{k.c.N}, w, false)
		}
	}
	for _, c := range plain.CrookedCodes() {
		for _, w := range plain.AnyLengths(c) {
			checkAccept(t, "nil", nil, c, w, nil, w, false)
		}
	}
}

// allWords are all of a code with K 1 or 2.
func allWords(c api.Code) [][]byte {
	var l [][]byte
	last := plain.Word(c, append(make([]byte, c.K-1), 1))
	first := plain.Word(c, plain.Behind([]byte{1}, c.K-1))
	for a := range 256 {
		w := plain.Times(byte(a), last)
		if c.K == 1 {
			l = append(l, w)
			continue
		}
		for b := range 256 {
			l = append(l, plain.Xored(w, plain.Times(byte(b), first)))
		}
	}
	return l
}

// subsets are all lists of places of a small code, rising or falling.
func subsets(c api.Code) [][]int {
	var l [][]int
	for bits := range 1 << c.N {
		var e []int
		for i := range c.N {
			if bits>>i&1 == 1 {
				e = append(e, i)
			}
		}
		if bits%3 == 1 {
			slices.Reverse(e)
		}
		l = append(l, e)
	}
	return l
}

// checkOnlyOne: of all words of a code no more than one is accepted, just that which is near enough; it tells whether there is one.
func checkOnlyOne(t *testing.T, name string, f *field.Field, c api.Code, words [][]byte, r []byte, e []int) bool {
	t.Helper()
	var got, want [][]byte
	for _, w := range words {
		if check.Accept(f, c, r, e, w) {
			got = append(got, w)
		}
		if plain.Mended(c, wrongPlain(r, w, e), len(e)) {
			want = append(want, w)
		}
	}
	if len(got) > 1 || !slices.EqualFunc(got, want, bytes.Equal) {
		t.Fatalf("%s: of all words of %v, %X are accepted for %X and %v, not %X", name, c, got, r, e, want)
	}
	return len(got) == 1
}

// anyReceived are lists as long as a small code's words: some that are near one of them, and some that are near none.
func anyReceived(c api.Code, words [][]byte) [][]byte {
	l := [][]byte{make([]byte, c.N), slices.Repeat([]byte{0xFF}, c.N)}
	for seed := range 8 {
		w := words[(seed*89+7)%len(words)]
		l = append(l, plain.Mixed(seed, c.N), plain.Through(w, min(seed%3, c.N), 0, seed).R)
	}
	return l
}

// TestNoMoreThanOne: of small codes with 256 words, for lists near and far and for all places, by each backend.
func TestNoMoreThanOne(t *testing.T) {
	t.Parallel()
	for name, f := range fields() {
		for _, c := range []api.Code{{N: 2, K: 1, B: 0}, {N: 2, K: 1, B: 254}, {N: 3, K: 1, B: 1}, {N: 4, K: 1, B: 253}, {N: 5, K: 1, B: 0}} {
			t.Run(name, func(t *testing.T) {
				t.Parallel()
				words := allWords(c)
				some := map[bool]bool{}
				for _, r := range anyReceived(c, words) {
					for _, e := range subsets(c) {
						some[checkOnlyOne(t, name, f, c, words, r, e)] = true
					}
				}
				if !some[true] || !some[false] {
					t.Errorf("of %v there is always one, or never", c)
				}
			})
		}
	}
}

// TestNoMoreThanOneOfAll: whatever the last byte of a list of two or three, with as many erased as Space, and one fewer.
func TestNoMoreThanOneOfAll(t *testing.T) {
	t.Parallel()
	for name, f := range fields() {
		for _, c := range []api.Code{{N: 2, K: 1, B: 100}, {N: 3, K: 1, B: 254}} {
			t.Run(name, func(t *testing.T) {
				t.Parallel()
				words := allWords(c)
				for b := range 256 {
					r := append(plain.Mixed(5, c.N-1), byte(b))
					for last := range c.N {
						e := slices.Delete(plain.AllPlaces(c), last, last+1)
						if one := checkOnlyOne(t, name, f, c, words, r, e); !one {
							t.Errorf("%s: no word of %v is accepted for %X and %v", name, c, r, e)
						}
						checkOnlyOne(t, name, f, c, words, r, e[1:])
					}
				}
			})
		}
	}
}

// TestNoMoreThanOneOfMany: of small codes with 65536 words, by one backend each.
func TestNoMoreThanOneOfMany(t *testing.T) {
	t.Parallel()
	for i, c := range []api.Code{{N: 3, K: 2, B: 254}, {N: 4, K: 2, B: 0}, {N: 5, K: 2, B: 77}} {
		t.Run("", func(t *testing.T) {
			t.Parallel()
			name := []string{"Lanes", "Table", "Shift"}[i]
			f, words := fields()[name], allWords(c)
			received, places := anyReceived(c, words), subsets(c)
			for n := range 16 {
				checkOnlyOne(t, name, f, c, words, received[n*5%len(received)], places[n*3%len(places)])
			}
		})
	}
}

// TestWhichOne: it is the word that was sent, with as many wrong and erased as may be, and no other one of its code.
func TestWhichOne(t *testing.T) {
	t.Parallel()
	for name, f := range fields() {
		for _, c := range []api.Code{{N: 4, K: 1, B: 254}, {N: 6, K: 1, B: 3}, {N: 9, K: 1, B: 250}} {
			words := allWords(c)
			for sent := 0; sent < len(words); sent += 51 {
				for seed, share := range plain.Shares(c) {
					come := plain.Through(words[sent], share[0], share[1], seed)
					for i, w := range words {
						checkAccept(t, name, f, c, come.R, come.E, w, i == sent)
					}
				}
			}
		}
	}
}
