package euclid_test

import (
	"bytes"
	"math"
	"slices"
	"sync"
	"testing"

	"erratum/api"
	"erratum/euclid"
	"erratum/field"
	"erratum/plain"
)

// asked is what all calls are handed.
type asked struct {
	a, b   []byte
	stop   int
	s      []byte
	erased int
}

// asks are many: polynomials of each order of degrees, with stops round them, and lists of which something is told, and such of which nothing is.
var asks = sync.OnceValue(func() []asked {
	var many []asked
	polys := plain.Polys()
	for i, s := range lists() {
		a, b := polys[i%len(polys)], polys[(5*i+3)%len(polys)]
		many = append(many, asked{a, b, len(b) / (i%4 + 1), s, i % (len(s) + 1)}, asked{b, s, i % 9, a, len(a) - i%2}, asked{plain.Alone(1, len(s)), s, i%5 - 1, b, i - 20})
	}
	return many
})

// copied shares no memory with a.
func (a asked) copied() asked {
	a.a, a.b, a.s = slices.Clone(a.a), slices.Clone(a.b), slices.Clone(a.s)
	return a
}

// framed is the same, each list within a longer one, and these.
func (a asked) framed() (inner, whole asked) {
	inner, whole = a, a
	whole.a, inner.a = plain.Framed(a.a)
	whole.b, inner.b = plain.Framed(a.b)
	whole.s, inner.s = plain.Framed(a.s)
	return inner, whole
}

// same says whether all lists are.
func (a asked) same(b asked) bool {
	return bytes.Equal(a.a, b.a) && bytes.Equal(a.b, b.b) && bytes.Equal(a.s, b.s)
}

// spoil changes all lists.
func (a asked) spoil() {
	plain.Spoil(a.a)
	plain.Spoil(a.b)
	plain.Spoil(a.s)
}

// answers are what all calls tell.
type answers struct {
	left, times        []byte
	steps              int
	locator, evaluator []byte
	ok                 bool
}

// told are the answers of all calls.
func told(f *field.Field, a asked) answers {
	var b answers
	b.left, b.times = euclid.Run(f, a.a, a.b, a.stop)
	b.steps = euclid.Steps(f, a.a, a.b, a.stop)
	b.locator, b.evaluator, b.ok = euclid.Key(f, a.s, a.erased)
	return b
}

// lists are those that were told.
func (a answers) lists() [4][]byte { return [4][]byte{a.left, a.times, a.locator, a.evaluator} }

// copied shares no memory with a.
func (a answers) copied() answers {
	a.left, a.times, a.locator, a.evaluator = slices.Clone(a.left), slices.Clone(a.times), slices.Clone(a.locator), slices.Clone(a.evaluator)
	return a
}

// unlike is the first call that answered otherwise; "", if none did.
func (a answers) unlike(b answers) string {
	switch {
	case !bytes.Equal(a.left, b.left), !bytes.Equal(a.times, b.times):
		return "Run"
	case a.steps != b.steps:
		return "Steps"
	case !bytes.Equal(a.locator, b.locator), !bytes.Equal(a.evaluator, b.evaluator), a.ok != b.ok:
		return "Key"
	}
	return ""
}

// TestAsks: of what the calls are handed below, of much something is told, of much nothing; many STEPS are done, and none.
func TestAsks(t *testing.T) {
	keys, runs := map[bool]int{}, map[bool]int{}
	for _, a := range asks() {
		b := told(field.Of(api.Shift), a)
		keys[b.ok]++
		runs[b.steps > 0]++
	}
	for _, is := range []bool{true, false} {
		if keys[is] < 50 || runs[is] < 50 {
			t.Errorf("%v: only %d of Key, %d of Steps", is, keys[is], runs[is])
		}
	}
}

// TestToldIsNew: what is told may be written to its capacity's end; what was handed in, what was told beside it, and what is told again, stays.
func TestToldIsNew(t *testing.T) {
	t.Parallel()
	for name, f := range fields() {
		for _, a := range asks() {
			inner, whole := a.framed()
			was := whole.copied()
			first, second := told(f, inner), told(f, inner)
			want := first.copied()
			if !whole.same(was) {
				t.Fatalf("%s: what was handed in was changed: %v became %v", name, was, whole)
			}
			for i, l := range second.lists() {
				rest := second.copied()
				plain.Spoil(l)
				for j, other := range second.lists() {
					if j != i && !bytes.Equal(other, rest.lists()[j]) {
						t.Fatalf("%s: of %v, two lists that are told share memory", name, a)
					}
				}
			}
			if !whole.same(was) {
				t.Fatalf("%s: what was handed in is handed out: %v became %v", name, was, whole)
			}
			if call := want.unlike(first); call != "" {
				t.Fatalf("%s: %s of %v shares memory with what was told before", name, call, a)
			}
			if call := want.unlike(told(f, inner)); call != "" {
				t.Fatalf("%s: %s of %v is another one, told again", name, call, a)
			}
		}
	}
}

// TestHandedInIsNotKept: what was told stays, and so does what is told later, whatever becomes of what was handed in.
func TestHandedInIsNotKept(t *testing.T) {
	t.Parallel()
	for name, f := range fields() {
		for _, a := range asks() {
			handed := a.copied()
			first := told(f, handed)
			want := first.copied()
			handed.spoil()
			if call := want.unlike(first); call != "" {
				t.Fatalf("%s: %s of %v shares memory with what was handed in", name, call, a)
			}
			if call := want.unlike(told(f, a)); call != "" {
				t.Fatalf("%s: %s of %v hangs on what was handed in before", name, call, a)
			}
		}
	}
}

// TestOneListForAll: a and b may be one list, or parts of one.
func TestOneListForAll(t *testing.T) {
	t.Parallel()
	for name, f := range fields() {
		for _, p := range plain.Polys() {
			was := slices.Clone(p)
			checkWords(t, name, f, p, p, rowsPlain(was, was), -1, len(p)/2, len(p))
			for _, n := range []int{len(p) / 3, len(p) / 2} {
				checkWords(t, name, f, p, p[:n], rowsPlain(was, was[:n]), 0, n/2, n)
				checkWords(t, name, f, p[n:], p, rowsPlain(was[n:], was), n/2, n)
			}
			if !bytes.Equal(p, was) {
				t.Fatalf("%s: what was handed in was changed: %X became %X", name, was, p)
			}
		}
	}
}

// TestNothingBehindIsRead: what lies behind the length changes nothing, not even if the list goes on there.
func TestNothingBehindIsRead(t *testing.T) {
	t.Parallel()
	for name, f := range fields() {
		for _, a := range asks() {
			inner, _ := a.framed()
			if call := told(f, a).unlike(told(f, inner)); call != "" {
				t.Fatalf("%s: %s of %v reads what lies behind", name, call, a)
			}
		}
		goesOn := []byte{1, 2, 4, 8, 16, 32}
		checkKey(t, name, f, goesOn[:0], 0, []byte{1}, nil)
		checkKey(t, name, f, goesOn[:1], 0, []byte{1}, []byte{1})
		checkNoKey(t, name, f, goesOn[:4], 5)
		checkTold(t, name, f, goesOn[:0], goesOn[:0], 0, row{nil, []byte{1}}, 0)
		checkTold(t, name, f, goesOn[:2], goesOn[:1], 0, row{nil, []byte{1, 2}}, 1)
	}
}

// TestWrongOnesStay: what nothing is told of is as it was, too.
func TestWrongOnesStay(t *testing.T) {
	t.Parallel()
	for i, p := range plain.Polys() {
		for _, n := range []int{math.MinInt, -1, len(p) + 1, 1000, math.MaxInt} {
			inner, whole := asked{p, plain.Mixed(i, i%9), n, p, n}.framed()
			was := whole.copied()
			told(nil, inner)
			for _, f := range fields() {
				told(f, inner)
			}
			if !whole.same(was) {
				t.Fatalf("what was handed in was changed: %v became %v", was, whole)
			}
		}
	}
}

// TestSameByAll: each backend tells the same.
func TestSameByAll(t *testing.T) {
	t.Parallel()
	table := field.Of(api.Table)
	for _, a := range asks() {
		want := told(table, a)
		for name, f := range fields() {
			if call := want.unlike(told(f, a)); call != "" {
				t.Errorf("%s: %s of %v is another one than Table's", name, call, a)
			}
		}
	}
}

// TestSeveralAtATime: many ask by one field; run with -race it tells more.
func TestSeveralAtATime(t *testing.T) {
	for name, f := range fields() {
		var everyone sync.WaitGroup
		wrong := make([]bool, 8)
		for who := range wrong {
			a := asks()[(who*37+11)%len(asks())]
			want := told(field.Of(api.Shift), a)
			everyone.Go(func() { wrong[who] = want.unlike(told(f, a)) != "" })
		}
		everyone.Wait()
		if slices.Contains(wrong, true) {
			t.Errorf("%s: several at a time were told otherwise", name)
		}
	}
}

// TestByNone: a nil Field tells nothing, 0, false, whatever it is handed.
func TestByNone(t *testing.T) {
	for _, a := range asks() {
		if call := (answers{}).unlike(told(nil, a)); call != "" {
			t.Errorf("nil: %s of %v tells something", call, a)
		}
	}
}
