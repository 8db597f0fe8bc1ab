package synd_test

import (
	"bytes"
	"slices"
	"sync"
	"testing"

	"erratum/api"
	"erratum/field"
	"erratum/plain"
	"erratum/synd"
)

// asked is what all calls are handed.
type asked struct {
	c    api.Code
	w    []byte
	e    []int
	s, l []byte
}

// asks are many: of each code some lists, places of it, or not, and lists of all lengths.
var asks = sync.OnceValue(func() []asked {
	var many []asked
	polys := plain.Polys()
	for i, k := range knownCodes() {
		places := append(plain.Places(k.c), plain.AnyPlaces()...)
		for j := i % 4; j < len(places); j += 4 {
			r, e := k.lists[j%len(k.lists)], places[j]
			s, l := r.syndromes, plain.Locator(e)
			if j%3 == 0 {
				s, l = polys[(i+j)%len(polys)], polys[(i+2*j)%len(polys)]
			}
			many = append(many, asked{k.c, r.w, e, s, l})
		}
	}
	return many
})

// copied shares no memory with a.
func (a asked) copied() asked {
	return asked{a.c, slices.Clone(a.w), slices.Clone(a.e), slices.Clone(a.s), slices.Clone(a.l)}
}

// framed is the same, each list within a longer one, and these.
func (a asked) framed() (inner, whole asked) {
	inner.c, whole.c = a.c, a.c
	whole.w, inner.w = plain.Framed(a.w)
	whole.e, inner.e = plain.Framed(a.e)
	whole.s, inner.s = plain.Framed(a.s)
	whole.l, inner.l = plain.Framed(a.l)
	return inner, whole
}

// same says whether all lists are.
func (a asked) same(b asked) bool {
	return bytes.Equal(a.w, b.w) && slices.Equal(a.e, b.e) && bytes.Equal(a.s, b.s) && bytes.Equal(a.l, b.l)
}

// spoil changes all lists.
func (a asked) spoil() {
	plain.Spoil(a.w)
	plain.Spoil(a.e)
	plain.Spoil(a.s)
	plain.Spoil(a.l)
}

// answers are all lists that are told, and what is said of the places.
type answers struct {
	lists  map[string][]byte
	sorted []int
	errno  api.Errno
}

// told are the answers of all calls.
func told(f *field.Field, a asked) answers {
	return answers{
		map[string][]byte{
			"Syndromes": synd.Syndromes(f, a.c, a.w),
			"Locator":   synd.Locator(f, a.e),
			"Modified":  synd.Modified(f, a.s, a.l),
		},
		synd.Sorted(a.e),
		synd.Erasures(a.c, a.e),
	}
}

// copied shares no memory with a.
func (a answers) copied() answers {
	return answers{plain.Copied(a.lists), slices.Clone(a.sorted), a.errno}
}

// spoil changes all lists.
func (a answers) spoil() {
	for _, l := range a.lists {
		plain.Spoil(l)
	}
	plain.Spoil(a.sorted)
}

// unlike is the first call that answered otherwise; "", if none did.
func (a answers) unlike(b answers) string {
	call, same := plain.Alike(a.lists, b.lists)
	switch {
	case !same:
		return call
	case !slices.Equal(a.sorted, b.sorted):
		return "Sorted"
	case a.errno != b.errno:
		return "Erasures"
	}
	return ""
}

// TestToldIsNew: what is told may be written to its capacity's end; what was handed in, what was told beside it, and what is told again, stays.
func TestToldIsNew(t *testing.T) {
	t.Parallel()
	for name, f := range fields() {
		for _, a := range asks() {
			inner, whole := a.framed()
			was := whole.copied()
			first, second := told(f, inner), told(f, inner)
			want := first.copied()
			if !whole.same(was) {
				t.Fatalf("%s: what was handed in was changed: %v became %v", name, was, whole)
			}
			second.spoil()
			if !whole.same(was) {
				t.Fatalf("%s: what was handed in is handed out: %v became %v", name, was, whole)
			}
			if call := want.unlike(first); call != "" {
				t.Errorf("%s: %s of %v shares memory with what was told before", name, call, a)
			}
			if call := want.unlike(told(f, inner)); call != "" {
				t.Errorf("%s: %s of %v is another one, told again", name, call, a)
			}
		}
	}
}

// TestHandedInIsNotKept: what was told stays, and so does what is told later, whatever becomes of what was handed in.
func TestHandedInIsNotKept(t *testing.T) {
	t.Parallel()
	for name, f := range fields() {
		for _, a := range asks() {
			handed := a.copied()
			first := told(f, handed)
			want := first.copied()
			handed.spoil()
			if call := want.unlike(first); call != "" {
				t.Errorf("%s: %s of %v shares memory with what was handed in", name, call, a)
			}
			if call := want.unlike(told(f, a)); call != "" {
				t.Errorf("%s: %s of %v hangs on what was handed in before", name, call, a)
			}
		}
	}
}

// TestNothingBehindIsRead: what lies behind the length changes nothing.
func TestNothingBehindIsRead(t *testing.T) {
	t.Parallel()
	for name, f := range fields() {
		for _, a := range asks() {
			inner, _ := a.framed()
			if call := told(f, a).unlike(told(f, inner)); call != "" {
				t.Errorf("%s: %s of %v reads what lies behind", name, call, a)
			}
			checkNone(t, name, f, a.c, a.w[:a.c.N-1])
		}
	}
}

// TestWrongOnesStay: what nothing, or an error, is told of is as it was, too.
func TestWrongOnesStay(t *testing.T) {
	t.Parallel()
	right := api.Code{N: 4, K: 2}
	for i, e := range plain.CrookedPlaces(right) {
		inner, whole := asked{right, plain.Mixed(i, i%9), e, plain.Mixed(i, i%7), plain.Mixed(i, i%5)}.framed()
		was := whole.copied()
		for _, c := range append(plain.CrookedCodes(), right) {
			inner.c = c
			told(nil, inner)
			for _, f := range fields() {
				told(f, inner)
			}
		}
		if !whole.same(was) {
			t.Errorf("what was handed in was changed: %v became %v", was, whole)
		}
	}
}

// TestSameByAll: each backend tells the same.
func TestSameByAll(t *testing.T) {
	t.Parallel()
	table := field.Of(api.Table)
	for _, a := range asks() {
		want := told(table, a)
		for name, f := range fields() {
			if call := want.unlike(told(f, a)); call != "" {
				t.Errorf("%s: %s of %v is another one than Table's", name, call, a)
			}
		}
	}
}

// TestSeveralAtATime: many ask by one field; run with -race it tells more.
func TestSeveralAtATime(t *testing.T) {
	for name, f := range fields() {
		var everyone sync.WaitGroup
		wrong := make([]bool, 8)
		for who := range wrong {
			a := asks()[(who*37+11)%len(asks())]
			want := told(field.Of(api.Shift), a)
			everyone.Go(func() { wrong[who] = want.unlike(told(f, a)) != "" })
		}
		everyone.Wait()
		if slices.Contains(wrong, true) {
			t.Errorf("%s: several at a time were told otherwise", name)
		}
	}
}
