package chien_test

import (
	"bytes"
	"math"
	"slices"
	"sync"
	"testing"

	"erratum/api"
	"erratum/chien"
	"erratum/field"
	"erratum/plain"
)

// asked is what all calls are handed.
type asked struct {
	c                     api.Code
	s, locator, evaluator []byte
	places                []int
	w, values             []byte
}

// asks are many: words of which something is wrong, with what may be worked out of that; places and polynomials of many kinds.
var asks = sync.OnceValue(func() []asked {
	var many []asked
	polys := plain.Polys()
	for i, k := range knownWrongs() {
		others := places()[i%len(places())]
		many = append(many, asked{k.c, k.s, k.locator, k.evaluator, k.places, k.r, k.values},
			asked{k.c, polys[i%len(polys)], polys[(3*i+1)%len(polys)], k.evaluator, others, polys[(5*i+2)%len(polys)], plain.Mixed(i, len(others)+i%3)},
			asked{k.c, k.s, []byte{1, byte(i % 2), byte(i)}, polys[i%len(polys)], others, k.w, plain.Mixed(i, i%4)})
	}
	return many
})

// copied shares no memory with a.
func (a asked) copied() asked {
	return asked{a.c, slices.Clone(a.s), slices.Clone(a.locator), slices.Clone(a.evaluator), slices.Clone(a.places), slices.Clone(a.w), slices.Clone(a.values)}
}

// framed is the same, each list within a longer one, and these.
func (a asked) framed() (inner, whole asked) {
	inner.c, whole.c = a.c, a.c
	whole.s, inner.s = plain.Framed(a.s)
	whole.locator, inner.locator = plain.Framed(a.locator)
	whole.evaluator, inner.evaluator = plain.Framed(a.evaluator)
	whole.places, inner.places = plain.Framed(a.places)
	whole.w, inner.w = plain.Framed(a.w)
	whole.values, inner.values = plain.Framed(a.values)
	return inner, whole
}

// lists are all but the places.
func (a asked) lists() [5][]byte { return [5][]byte{a.s, a.locator, a.evaluator, a.w, a.values} }

// same says whether all lists are.
func (a asked) same(b asked) bool {
	for i, l := range a.lists() {
		if !bytes.Equal(l, b.lists()[i]) {
			return false
		}
	}
	return slices.Equal(a.places, b.places)
}

// spoil changes all lists.
func (a asked) spoil() {
	for _, l := range a.lists() {
		plain.Spoil(l)
	}
	plain.Spoil(a.places)
}

// answers are what all calls tell.
type answers struct {
	places                    []int
	values, mended, evaluator []byte
	ok                        bool
}

// told are the answers of all calls.
func told(f *field.Field, a asked) answers {
	b := answers{places: chien.Places(f, a.c, a.locator), mended: chien.Mend(a.w, a.places, a.values), evaluator: chien.Evaluator(f, a.s, a.locator)}
	b.values, b.ok = chien.Values(f, a.c, a.evaluator, a.locator, a.places)
	return b
}

// copied shares no memory with a.
func (a answers) copied() answers {
	return answers{slices.Clone(a.places), slices.Clone(a.values), slices.Clone(a.mended), slices.Clone(a.evaluator), a.ok}
}

// spoil changes all lists.
func (a answers) spoil() {
	plain.Spoil(a.places)
	plain.Spoil(a.values)
	plain.Spoil(a.mended)
	plain.Spoil(a.evaluator)
}

// unlike is the first call that answered otherwise; "", if none did.
func (a answers) unlike(b answers) string {
	switch {
	case !slices.Equal(a.places, b.places):
		return "Places"
	case !bytes.Equal(a.values, b.values), a.ok != b.ok:
		return "Values"
	case !bytes.Equal(a.mended, b.mended):
		return "Mend"
	case !bytes.Equal(a.evaluator, b.evaluator):
		return "Evaluator"
	}
	return ""
}

// TestAsks: of what the calls are handed below, of much something is told, of much nothing.
func TestAsks(t *testing.T) {
	values, places, mended := map[bool]int{}, map[bool]int{}, map[bool]int{}
	for _, a := range asks() {
		b := told(field.Of(api.Shift), a)
		values[b.ok]++
		places[len(b.places) > 0]++
		mended[!bytes.Equal(b.mended, a.w)]++
	}
	for _, is := range []bool{true, false} {
		if values[is] < 50 || places[is] < 50 || mended[is] < 50 {
			t.Errorf("%v: only %d of Values, %d of Places, %d of Mend", is, values[is], places[is], mended[is])
		}
	}
}

// TestToldIsNew: what is told may be written to its capacity's end; what was handed in, what was told beside it, and what is told again, stays.
func TestToldIsNew(t *testing.T) {
	t.Parallel()
	for name, f := range fields() {
		for _, a := range asks() {
			inner, whole := a.framed()
			was := whole.copied()
			first, second := told(f, inner), told(f, inner)
			want := first.copied()
			if !whole.same(was) {
				t.Fatalf("%s: what was handed in was changed: %v became %v", name, was, whole)
			}
			second.spoil()
			if !whole.same(was) {
				t.Fatalf("%s: what was handed in is handed out: %v became %v", name, was, whole)
			}
			if call := want.unlike(first); call != "" {
				t.Fatalf("%s: %s of %v shares memory with what was told before", name, call, a)
			}
			if call := want.unlike(told(f, inner)); call != "" {
				t.Fatalf("%s: %s of %v is another one, told again", name, call, a)
			}
		}
	}
}

// TestHandedInIsNotKept: what was told stays, and so does what is told later, whatever becomes of what was handed in.
func TestHandedInIsNotKept(t *testing.T) {
	t.Parallel()
	for name, f := range fields() {
		for _, a := range asks() {
			handed := a.copied()
			first := told(f, handed)
			want := first.copied()
			handed.spoil()
			if call := want.unlike(first); call != "" {
				t.Fatalf("%s: %s of %v shares memory with what was handed in", name, call, a)
			}
			if call := want.unlike(told(f, a)); call != "" {
				t.Fatalf("%s: %s of %v hangs on what was handed in before", name, call, a)
			}
		}
	}
}

// TestOneListForAll: all that is handed in may be one list, or parts of one.
func TestOneListForAll(t *testing.T) {
	t.Parallel()
	c := api.Code{N: 9, K: 4, B: 250}
	for name, f := range fields() {
		for _, p := range plain.Polys() {
			was, n := slices.Clone(p), len(p)/2
			checkEvaluator(t, name, f, p, p, evaluatorPlain(was, was))
			checkEvaluator(t, name, f, p[n:], p, evaluatorPlain(was[n:], was))
			checkEvaluator(t, name, f, p, p[:n], evaluatorPlain(was, was[:n]))
			checkWords(t, name, f, c, p, p, []int{0, 3, 8})
			checkWords(t, name, f, c, p[:n], p[n:], []int{0, 3, 8})
			checkMend(t, p, []int{1, n, 0}, p, mendPlain(was, []int{1, n, 0}, was))
			checkMend(t, p[:n], []int{1, n, 0}, p[n:], mendPlain(was[:n], []int{1, n, 0}, was[n:]))
			if !bytes.Equal(p, was) {
				t.Fatalf("%s: what was handed in was changed: %X became %X", name, was, p)
			}
		}
	}
}

// TestNothingBehindIsRead: what lies behind the length changes nothing, not even if the list goes on there.
func TestNothingBehindIsRead(t *testing.T) {
	t.Parallel()
	c := api.Code{N: 4, K: 2}
	places, goesOn := []int{1, 0, 3}, []byte{1, 2, 4, 8}
	for name, f := range fields() {
		for _, a := range asks() {
			inner, _ := a.framed()
			if call := told(f, a).unlike(told(f, inner)); call != "" {
				t.Fatalf("%s: %s of %v reads what lies behind", name, call, a)
			}
		}
		checkPlaces(t, name, f, c, goesOn[:2], []int{1})
		checkNoPlaces(t, name, f, c, goesOn[:1])
		checkEvaluator(t, name, f, goesOn[:1], goesOn, []byte{1})
		checkEvaluator(t, name, f, goesOn[:2], goesOn[:1], []byte{1, 2})
		checkValues(t, name, f, c, goesOn[:1], goesOn[:2], places[:1], []byte{1})
		checkNoValues(t, name, f, c, goesOn[:1], goesOn[:1], places[:1])
		checkMend(t, goesOn[:2], places, goesOn, []byte{3, 3})
		checkMend(t, goesOn, places[:2], goesOn[:1], []byte{1, 3, 4, 8})
		checkMend(t, goesOn, places[:1], goesOn, []byte{1, 3, 4, 8})
	}
}

// TestWrongOnesStay: what nothing is told of is as it was, too.
func TestWrongOnesStay(t *testing.T) {
	t.Parallel()
	for i, c := range plain.CrookedCodes() {
		inner, whole := asked{c, plain.Mixed(i, 5), []byte{1, 0, 1}, plain.Mixed(i, 3), []int{1, math.MinInt, 1, math.MaxInt}, plain.Mixed(i, i%6), plain.Mixed(i, 5)}.framed()
		was := whole.copied()
		for _, c := range []api.Code{c, {N: 4, K: 2}} {
			inner.c = c
			told(nil, inner)
			for _, f := range fields() {
				told(f, inner)
			}
		}
		if !whole.same(was) {
			t.Fatalf("what was handed in was changed: %v became %v", was, whole)
		}
	}
}

// TestSameByAll: each backend tells the same.
func TestSameByAll(t *testing.T) {
	t.Parallel()
	table := field.Of(api.Table)
	for _, a := range asks() {
		want := told(table, a)
		for name, f := range fields() {
			if call := want.unlike(told(f, a)); call != "" {
				t.Errorf("%s: %s of %v is another one than Table's", name, call, a)
			}
		}
	}
}

// TestSeveralAtATime: many ask by one field; run with -race it tells more.
func TestSeveralAtATime(t *testing.T) {
	for name, f := range fields() {
		var everyone sync.WaitGroup
		wrong := make([]bool, 8)
		for who := range wrong {
			a := asks()[(who*37+11)%len(asks())]
			want := told(field.Of(api.Shift), a)
			everyone.Go(func() { wrong[who] = want.unlike(told(f, a)) != "" })
		}
		everyone.Wait()
		if slices.Contains(wrong, true) {
			t.Errorf("%s: several at a time were told otherwise", name)
		}
	}
}

// TestByNone: a nil Field tells nothing, false, whatever it is handed; a word is mended without one.
func TestByNone(t *testing.T) {
	for _, a := range asks() {
		if call := (answers{mended: mendPlain(a.w, a.places, a.values)}).unlike(told(nil, a)); call != "" {
			t.Errorf("nil: %s of %v tells otherwise", call, a)
		}
	}
}
