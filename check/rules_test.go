package check_test

import (
	"bytes"
	"slices"
	"sync"
	"testing"

	"erratum/api"
	"erratum/check"
	"erratum/field"
	"erratum/plain"
)

// asked is what all calls are handed.
type asked struct {
	c    api.Code
	r, w []byte
	e    []int
}

// asks are many: of each code words and what came of them, some of it near enough, some not, and lists that are no words.
var asks = sync.OnceValue(func() []asked {
	var many []asked
	for i, k := range knownCodes() {
		places := plain.AnyPlaces()
		for n, share := range plain.Shares(k.c) {
			w := k.words[(i+n)%len(k.words)]
			mended := plain.Through(w, share[0], share[1], i+n)
			many = append(many, asked{k.c, mended.R, w, mended.E}, asked{k.c, mended.R, w, places[(i*7+n)%len(places)]})
		}
		many = append(many, asked{k.c, plain.Mixed(i, k.c.N), plain.Mixed(i+1, k.c.N), []int{0}})
	}
	return many
})

// copied shares no memory with a.
func (a asked) copied() asked {
	return asked{a.c, slices.Clone(a.r), slices.Clone(a.w), slices.Clone(a.e)}
}

// framed is the same, each list within a longer one, and these.
func (a asked) framed() (inner, whole asked) {
	inner.c, whole.c = a.c, a.c
	whole.r, inner.r = plain.Framed(a.r)
	whole.w, inner.w = plain.Framed(a.w)
	whole.e, inner.e = plain.Framed(a.e)
	return inner, whole
}

// same says whether all lists are.
func (a asked) same(b asked) bool {
	return bytes.Equal(a.r, b.r) && bytes.Equal(a.w, b.w) && slices.Equal(a.e, b.e)
}

// spoil changes all lists.
func (a asked) spoil() {
	plain.Spoil(a.r)
	plain.Spoil(a.w)
	plain.Spoil(a.e)
}

// answers are those of all calls.
type answers struct {
	apart  []int
	wrong  int
	accept bool
	answer api.Answer
	errno  api.Errno
}

// told are the answers of all calls.
func told(f *field.Field, a asked) answers {
	answer, errno := check.Answer(a.c, a.r, a.w)
	return answers{check.Apart(a.r, a.w), check.Wrong(a.r, a.w, a.e), check.Accept(f, a.c, a.r, a.e, a.w), answer, errno}
}

// copied shares no memory with a.
func (a answers) copied() answers {
	a.apart = slices.Clone(a.apart)
	a.answer = api.Answer{Word: slices.Clone(a.answer.Word), Msg: slices.Clone(a.answer.Msg), At: slices.Clone(a.answer.At)}
	return a
}

// spoil changes all lists.
func (a answers) spoil() {
	plain.Spoil(a.apart)
	plain.Spoil(a.answer.Word)
	plain.Spoil(a.answer.Msg)
	plain.Spoil(a.answer.At)
}

// unlike is the first call that answered otherwise; "", if none did.
func (a answers) unlike(b answers) string {
	switch {
	case !slices.Equal(a.apart, b.apart):
		return "Apart"
	case a.wrong != b.wrong:
		return "Wrong"
	case a.accept != b.accept:
		return "Accept"
	case a.errno != b.errno, !same(a.answer, b.answer):
		return "Answer"
	}
	return ""
}

// TestAsksAreMany: some are accepted, and some are not.
func TestAsksAreMany(t *testing.T) {
	some := map[bool]int{}
	for _, a := range asks() {
		some[told(field.Of(api.Table), a).accept]++
	}
	if some[true] < 20 || some[false] < 20 {
		t.Errorf("%d are accepted, and %d are not", some[true], some[false])
	}
}

// TestToldIsNew: what is told may be written to its capacity's end; what was handed in, what was told beside it, and what is told again, stays.
func TestToldIsNew(t *testing.T) {
	t.Parallel()
	for name, f := range fields() {
		for _, a := range asks() {
			inner, whole := a.framed()
			was := whole.copied()
			first, second := told(f, inner), told(f, inner)
			want := first.copied()
			if !whole.same(was) {
				t.Fatalf("%s: what was handed in was changed: %v became %v", name, was, whole)
			}
			second.spoil()
			if !whole.same(was) {
				t.Fatalf("%s: what was handed in is handed out: %v became %v", name, was, whole)
			}
			if call := want.unlike(first); call != "" {
				t.Errorf("%s: %s of %v shares memory with what was told before", name, call, a)
			}
			if call := want.unlike(told(f, inner)); call != "" {
				t.Errorf("%s: %s of %v is another one, told again", name, call, a)
			}
		}
	}
}

// TestListsOfAnAnswer: neither its word nor its message is changed by what is written to the other one, to its capacity's end.
func TestListsOfAnAnswer(t *testing.T) {
	for _, a := range asks() {
		want, _ := check.Answer(a.c, a.r, a.w)
		word, _ := check.Answer(a.c, a.r, a.w)
		msg, _ := check.Answer(a.c, a.r, a.w)
		plain.Spoil(word.Word)
		plain.Spoil(msg.Msg)
		if !bytes.Equal(word.Msg, want.Msg) || !bytes.Equal(msg.Word, want.Word) {
			t.Errorf("the word and the message that Answer tells of %v share memory", a)
		}
	}
}

// TestHandedInIsNotKept: what was told stays, and so does what is told later, whatever becomes of what was handed in.
func TestHandedInIsNotKept(t *testing.T) {
	t.Parallel()
	for name, f := range fields() {
		for _, a := range asks() {
			handed := a.copied()
			first := told(f, handed)
			want := first.copied()
			handed.spoil()
			if call := want.unlike(first); call != "" {
				t.Errorf("%s: %s of %v shares memory with what was handed in", name, call, a)
			}
			if call := want.unlike(told(f, a)); call != "" {
				t.Errorf("%s: %s of %v hangs on what was handed in before", name, call, a)
			}
		}
	}
}

// TestNothingBehindIsRead: what lies behind the length changes nothing, and is not taken for what the length lacks.
func TestNothingBehindIsRead(t *testing.T) {
	t.Parallel()
	for name, f := range fields() {
		for _, a := range asks() {
			inner, _ := a.framed()
			if call := told(f, a).unlike(told(f, inner)); call != "" {
				t.Errorf("%s: %s of %v reads what lies behind", name, call, a)
			}
			short := a.c.N - 1
			checkAccept(t, name, f, a.c, a.w[:short], nil, a.w, false)
			checkAccept(t, name, f, a.c, a.w, nil, a.w[:short], false)
			checkNoAnswer(t, a.c, a.w[:short], a.w, api.BadLength)
			checkNoAnswer(t, a.c, a.w, a.w[:short], api.BadLength)
		}
	}
}

// TestWrongOnesStay: what nothing, or an error, is told of is as it was, too.
func TestWrongOnesStay(t *testing.T) {
	right := api.Code{N: 4, K: 2}
	for i, e := range plain.CrookedPlaces(right) {
		inner, whole := asked{right, plain.Mixed(i, i%6), plain.Mixed(i+1, i%5), e}.framed()
		was := whole.copied()
		for _, c := range append(plain.CrookedCodes(), right) {
			inner.c = c
			told(nil, inner)
			for _, f := range fields() {
				told(f, inner)
			}
		}
		if !whole.same(was) {
			t.Errorf("what was handed in was changed: %v became %v", was, whole)
		}
	}
}

// TestSameByAll: each backend tells the same.
func TestSameByAll(t *testing.T) {
	t.Parallel()
	table := field.Of(api.Table)
	for _, a := range asks() {
		want := told(table, a)
		for name, f := range fields() {
			if call := want.unlike(told(f, a)); call != "" {
				t.Errorf("%s: %s of %v is another one than Table's", name, call, a)
			}
		}
	}
}

// TestSeveralAtATime: many ask by one field; run with -race it tells more.
func TestSeveralAtATime(t *testing.T) {
	for name, f := range fields() {
		var everyone sync.WaitGroup
		wrong := make([]bool, 8)
		for who := range wrong {
			a := asks()[(who*37+11)%len(asks())]
			want := told(field.Of(api.Shift), a)
			everyone.Go(func() { wrong[who] = want.unlike(told(f, a)) != "" })
		}
		everyone.Wait()
		if slices.Contains(wrong, true) {
			t.Errorf("%s: several at a time were told otherwise", name)
		}
	}
}
