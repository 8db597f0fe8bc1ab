package massey_test

import (
	"bytes"
	"math"
	"slices"
	"sync"
	"testing"

	"erratum/api"
	"erratum/field"
	"erratum/massey"
	"erratum/plain"
)

// asked is what all calls are handed.
type asked struct {
	l []byte
	n int
	s []byte
}

// asks are many: lists with what makes them, with noughts behind it and without, and with what does not.
var asks = sync.OnceValue(func() []asked {
	var many []asked
	polys := plain.Polys()
	for i, s := range lists() {
		l, n := massey.Massey(field.Of(api.Shift), s)
		many = append(many, asked{l, n, s}, asked{plain.Behind(l, i%7), len(s) - i%2, s}, asked{polys[i%len(polys)], i % 40, s})
	}
	return many
})

// copied shares no memory with a.
func (a asked) copied() asked { return asked{slices.Clone(a.l), a.n, slices.Clone(a.s)} }

// framed is the same, each list within a longer one, and these.
func (a asked) framed() (inner, whole asked) {
	inner.n, whole.n = a.n, a.n
	whole.l, inner.l = plain.Framed(a.l)
	whole.s, inner.s = plain.Framed(a.s)
	return inner, whole
}

// same says whether both lists are.
func (a asked) same(b asked) bool { return bytes.Equal(a.l, b.l) && bytes.Equal(a.s, b.s) }

// spoil changes both lists.
func (a asked) spoil() {
	plain.Spoil(a.l)
	plain.Spoil(a.s)
}

// answers are what all calls tell.
type answers struct {
	register    []byte
	long, again int
	makes       bool
	next        byte
	is          bool
}

// told are the answers of all calls.
func told(f *field.Field, a asked) answers {
	var b answers
	b.register, b.long = massey.Massey(f, a.s)
	b.again = massey.Length(f, a.s)
	b.makes = massey.Makes(f, a.l, a.n, a.s)
	b.next, b.is = massey.Next(f, a.l, a.n, a.s)
	return b
}

// copied shares no memory with a.
func (a answers) copied() answers {
	a.register = slices.Clone(a.register)
	return a
}

// unlike is the first call that answered otherwise; "", if none did.
func (a answers) unlike(b answers) string {
	switch {
	case !bytes.Equal(a.register, b.register), a.long != b.long:
		return "Massey"
	case a.again != b.again:
		return "Length"
	case a.makes != b.makes:
		return "Makes"
	case a.next != b.next, a.is != b.is:
		return "Next"
	}
	return ""
}

// TestAsks: of what the calls are handed below, much is made, and much is not.
func TestAsks(t *testing.T) {
	made, not := 0, 0
	for _, a := range asks() {
		if makesPlain(a.l, a.n, a.s) {
			made++
		} else {
			not++
		}
	}
	if made < 100 || not < 100 {
		t.Errorf("%d are made, %d are not", made, not)
	}
}

// TestToldIsNew: what is told may be written to its capacity's end; what was handed in, what was told beside it, and what is told again, stays.
func TestToldIsNew(t *testing.T) {
	t.Parallel()
	for name, f := range fields() {
		for _, a := range asks() {
			inner, whole := a.framed()
			was := whole.copied()
			first, second := told(f, inner), told(f, inner)
			want := first.copied()
			if !whole.same(was) {
				t.Fatalf("%s: what was handed in was changed: %v became %v", name, was, whole)
			}
			plain.Spoil(second.register)
			if !whole.same(was) {
				t.Fatalf("%s: what was handed in is handed out: %v became %v", name, was, whole)
			}
			if call := want.unlike(first); call != "" {
				t.Fatalf("%s: %s of %v shares memory with what was told before", name, call, a)
			}
			if call := want.unlike(told(f, inner)); call != "" {
				t.Fatalf("%s: %s of %v is another one, told again", name, call, a)
			}
		}
	}
}

// TestHandedInIsNotKept: what was told stays, and so does what is told later, whatever becomes of what was handed in.
func TestHandedInIsNotKept(t *testing.T) {
	t.Parallel()
	for name, f := range fields() {
		for _, a := range asks() {
			handed := a.copied()
			first := told(f, handed)
			want := first.copied()
			handed.spoil()
			if call := want.unlike(first); call != "" {
				t.Fatalf("%s: %s of %v shares memory with what was handed in", name, call, a)
			}
			if call := want.unlike(told(f, a)); call != "" {
				t.Fatalf("%s: %s of %v hangs on what was handed in before", name, call, a)
			}
		}
	}
}

// TestNothingBehindIsRead: what lies behind the length changes nothing, not even if the register or the list goes on there.
func TestNothingBehindIsRead(t *testing.T) {
	t.Parallel()
	for name, f := range fields() {
		for _, a := range asks() {
			inner, _ := a.framed()
			if call := told(f, a).unlike(told(f, inner)); call != "" {
				t.Fatalf("%s: %s of %v reads what lies behind", name, call, a)
			}
		}
		goesOn := []byte{1, 2, 4, 8, 16, 32}
		checkTold(t, name, f, goesOn[:0], []byte{1}, 0)
		checkTold(t, name, f, []byte{5, 5, 9, 1}[:2], []byte{1, 1}, 1)
		checkMakes(t, name, f, []byte{1, 2}[:1], 1, goesOn[:4], false)
		checkMakes(t, name, f, []byte{1, 2}, 5, goesOn[:4], false)
		checkNoNext(t, name, f, []byte{1, 2}[:1], 1, goesOn[:4])
	}
}

// TestWrongOnesStay: what 0, false, or nothing, is told of is as it was, too.
func TestWrongOnesStay(t *testing.T) {
	t.Parallel()
	for i, l := range plain.Polys() {
		for _, n := range []int{math.MinInt, -1, 0, 1, i, 70, math.MaxInt} {
			inner, whole := asked{l, n, plain.Mixed(i, i%9)}.framed()
			was := whole.copied()
			told(nil, inner)
			for _, f := range fields() {
				told(f, inner)
			}
			if !whole.same(was) {
				t.Fatalf("what was handed in was changed: %v became %v", was, whole)
			}
		}
	}
}

// TestSameByAll: each backend tells the same, also where it is free which register is told.
func TestSameByAll(t *testing.T) {
	t.Parallel()
	table := field.Of(api.Table)
	for _, a := range asks() {
		want := told(table, a)
		for name, f := range fields() {
			if call := want.unlike(told(f, a)); call != "" {
				t.Errorf("%s: %s of %v is another one than Table's", name, call, a)
			}
		}
	}
}

// TestSeveralAtATime: many ask by one field; run with -race it tells more.
func TestSeveralAtATime(t *testing.T) {
	for name, f := range fields() {
		var everyone sync.WaitGroup
		wrong := make([]bool, 8)
		for who := range wrong {
			a := asks()[(who*37+11)%len(asks())]
			want := told(field.Of(api.Shift), a)
			everyone.Go(func() { wrong[who] = want.unlike(told(f, a)) != "" })
		}
		everyone.Wait()
		if slices.Contains(wrong, true) {
			t.Errorf("%s: several at a time were told otherwise", name)
		}
	}
}

// TestByNone: a nil Field tells nothing, 0, false, whatever it is handed.
func TestByNone(t *testing.T) {
	for _, a := range asks() {
		if call := (answers{}).unlike(told(nil, a)); call != "" {
			t.Errorf("nil: %s of %v tells something", call, a)
		}
	}
}
