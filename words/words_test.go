package words_test

import (
	"math"
	"slices"
	"testing"

	"forelock/api"
	"forelock/words"
)

func TestMaking(t *testing.T) {
	for _, c := range []struct {
		got, want api.Word
	}{
		{words.Name("cores"), api.Word{Kind: 1, Text: "cores"}}, {words.Name(""), api.Word{Kind: 1}},
		{words.Number(12), api.Word{Kind: 2, N: 12}}, {words.Number(0), api.Word{Kind: 2}}, {words.Number(-3), api.Word{Kind: 2, N: -3}},
		{words.Mark(";"), api.Word{Kind: 3, Text: ";"}}, {words.Mark("}"), api.Word{Kind: 3, Text: "}"}},
	} {
		if c.got != c.want {
			t.Errorf("%v; want %v", c.got, c.want)
		}
	}
}

func TestSpan(t *testing.T) {
	for _, c := range []struct {
		span words.Span
		n    int
		want bool
	}{
		{words.Span{Least: 2, Most: 5}, 1, false}, {words.Span{Least: 2, Most: 5}, 2, true}, {words.Span{Least: 2, Most: 5}, 3, true},
		{words.Span{Least: 2, Most: 5}, 5, true}, {words.Span{Least: 2, Most: 5}, 6, false}, {words.Span{Least: 2, Most: 5}, -3, false},
		{words.Span{Least: 2, Most: 5}, math.MaxInt, false}, {words.Span{Least: 2, Most: 5}, math.MinInt, false},
		{words.Span{}, 0, true}, {words.Span{}, 1, false}, {words.Span{}, -1, false},
		{words.Span{Least: 5, Most: 2}, 3, false}, {words.Span{Least: 3, Most: 3}, 3, true},
	} {
		if got := c.span.Has(c.n); got != c.want {
			t.Errorf("%v has %d: %t", c.span, c.n, got)
		}
	}
}

// three are a name, a number and a mark, as they stand in a text.
func three() []api.Word {
	return []api.Word{{Kind: 1, Text: "cores", At: 3}, {Kind: 2, N: 2, At: 9}, {Kind: 3, Text: ";", At: 10}}
}

// checkMet holds where the reader is, and what it met there, against these.
func checkMet(t *testing.T, r *words.Reader, place int, why api.Errno) {
	t.Helper()
	if at, err := r.Met(); at != place || err != why {
		t.Errorf("Met: %d, %d; want %d, %d", at, err, place, why)
	}
	if r.Goes() != (why == api.OK) {
		t.Errorf("Goes: %t, at %d, with %d", r.Goes(), place, why)
	}
}

func TestReadFrom(t *testing.T) {
	for _, l := range [][]api.Word{nil, {}, three()} {
		for at := -2; at <= len(l)+2; at++ {
			if at < 0 || at > len(l) {
				checkMet(t, words.Read(l, at), 0, api.ErrForm)
			} else {
				checkMet(t, words.Read(l, at), at, api.OK)
			}
		}
		for _, at := range []int{math.MinInt, math.MaxInt, 1 << 32} {
			checkMet(t, words.Read(l, at), 0, api.ErrForm)
		}
	}
}

// A reader that begins nowhere takes nothing, of whatever there is.
func TestReadFromNowhere(t *testing.T) {
	r := words.Read(three(), -1)
	if w := r.Next(); w != (api.Word{}) {
		t.Errorf("Next: %v", w)
	}
	if r.Take(words.Name("cores")) || r.Take(api.Word{}) || r.Number(words.Span{Least: 0, Most: 9}) != 0 {
		t.Error("something was taken")
	}
	r.Need(words.Name("cores"))
	r.Fail(api.ErrLong)
	checkMet(t, r, 0, api.ErrForm)
}

func TestNext(t *testing.T) {
	l := three()
	kept := slices.Clone(l)
	for at, want := range []api.Word{words.Name("cores"), words.Number(2), words.Mark(";"), {}} {
		r := words.Read(l, at)
		for range 2 {
			if w := r.Next(); w != want {
				t.Errorf("Next at %d: %v; want %v", at, w, want)
			}
		}
		checkMet(t, r, at, api.OK)
	}
	if !slices.Equal(l, kept) {
		t.Errorf("the words were changed: %v", l)
	}
}

// The end is behind the last word, even if that is of no kind.
func TestEnds(t *testing.T) {
	for at := range 4 {
		if got := words.Read(three(), at).Ends(); got != (at == 3) {
			t.Errorf("Ends at %d of 3: %t", at, got)
		}
	}
	for _, l := range [][]api.Word{nil, {}} {
		if !words.Read(l, 0).Ends() {
			t.Error("no words, and no end")
		}
	}
	if words.Read([]api.Word{{}}, 0).Ends() {
		t.Error("a word of no kind is the end")
	}
	r := words.Read(three(), 2)
	r.Need(words.Mark("."))
	if r.Ends() {
		t.Error("a reader that stays ahead of a word is at the end")
	}
	if !words.Read(three(), -1).Ends() {
		t.Error("a reader that begins nowhere has a word ahead")
	}
}

func TestTake(t *testing.T) {
	r := words.Read(three(), 0)
	for _, w := range []api.Word{words.Name("core"), words.Mark("cores"), words.Number(2), {}} {
		if r.Take(w) {
			t.Errorf("%v was taken", w)
		}
		checkMet(t, r, 0, api.OK)
	}
	for i, w := range []api.Word{words.Name("cores"), words.Number(2), words.Mark(";")} {
		if !r.Take(w) {
			t.Errorf("%v wasn't taken", w)
		}
		checkMet(t, r, i+1, api.OK)
	}
	// Behind the end not even the word of no kind is there.
	if r.Take(words.Mark(";")) || r.Take(api.Word{}) {
		t.Error("something was taken behind the end")
	}
	checkMet(t, r, 3, api.OK)
}

func TestNeed(t *testing.T) {
	r := words.Read(three(), 0)
	r.Need(words.Name("cores"))
	checkMet(t, r, 1, api.OK)
	r.Need(words.Number(3))
	checkMet(t, r, 1, api.ErrForm)
	// It stays, even where what is needed then would be there.
	r.Need(words.Number(2))
	checkMet(t, r, 1, api.ErrForm)
	end := words.Read(three(), 3)
	end.Need(words.Mark(";"))
	checkMet(t, end, 3, api.ErrForm)
}

func TestNumber(t *testing.T) {
	for _, c := range []struct {
		w    api.Word
		may  words.Span
		want int
		why  api.Errno
	}{
		{words.Number(2), words.Span{Least: 2, Most: 5}, 2, api.OK}, {words.Number(5), words.Span{Least: 2, Most: 5}, 5, api.OK}, {words.Number(0), words.Span{}, 0, api.OK},
		{words.Number(1), words.Span{Least: 2, Most: 5}, 0, api.ErrArg}, {words.Number(6), words.Span{Least: 2, Most: 5}, 0, api.ErrArg}, {words.Number(-4), words.Span{Least: 2, Most: 5}, 0, api.ErrArg},
		{words.Name("x"), words.Span{}, 0, api.ErrForm}, {words.Mark(";"), words.Span{}, 0, api.ErrForm}, {api.Word{}, words.Span{}, 0, api.ErrForm},
		{api.Word{Kind: 2, N: 3, Text: "3"}, words.Span{Least: 2, Most: 5}, 0, api.ErrForm}, {api.Word{Kind: 1, N: 3}, words.Span{Least: 2, Most: 5}, 0, api.ErrForm},
		{api.Word{Kind: 2, N: 9, Text: "9"}, words.Span{Least: 2, Most: 5}, 0, api.ErrForm},
	} {
		c.w.At = 77
		r := words.Read([]api.Word{words.Name("x"), c.w}, 1)
		if n := r.Number(c.may); n != c.want {
			t.Errorf("Number of %v within %v: %d; want %d", c.w, c.may, n, c.want)
		}
		if c.why == api.OK {
			checkMet(t, r, 2, api.OK)
		} else {
			checkMet(t, r, 1, c.why)
		}
	}
	end := words.Read(three(), 3)
	if n := end.Number(words.Span{}); n != 0 {
		t.Errorf("Number behind the end: %d", n)
	}
	checkMet(t, end, 3, api.ErrForm)
	failed := words.Read(three(), 1)
	failed.Fail(api.ErrNone)
	if n := failed.Number(words.Span{Least: 0, Most: 9}); n != 0 {
		t.Errorf("Number of a reader that stays: %d", n)
	}
	checkMet(t, failed, 1, api.ErrNone)
}

// What is met first is kept.
func TestFail(t *testing.T) {
	r := words.Read(three(), 2)
	r.Fail(api.ErrLong)
	checkMet(t, r, 2, api.ErrLong)
	r.Fail(api.ErrNone)
	r.Need(words.Name("x"))
	checkMet(t, r, 2, api.ErrLong)
	if r.Take(words.Mark(";")) {
		t.Error("a reader that stays took a word")
	}
}

func TestPart(t *testing.T) {
	l := three()
	r := words.Read(l, 1)
	got := words.Part(r, func(all []api.Word, at int) (string, int, api.Errno) {
		if !slices.Equal(all, l) || at != 1 {
			t.Errorf("parsed from %d of %v", at, all)
		}
		return "part", 3, api.OK
	})
	if got != "part" {
		t.Errorf("Part: %q", got)
	}
	checkMet(t, r, 3, api.OK)
}

func TestPartThatMeets(t *testing.T) {
	r := words.Read(three(), 0)
	got := words.Part(r, func([]api.Word, int) (int, int, api.Errno) { return 0, 2, api.ErrNone })
	if got != 0 {
		t.Errorf("Part: %d", got)
	}
	checkMet(t, r, 2, api.ErrNone)
	got = words.Part(r, func([]api.Word, int) (int, int, api.Errno) {
		t.Error("a reader that stays read a part")
		return 5, 3, api.OK
	})
	if got != 0 {
		t.Errorf("Part of a reader that stays: %d", got)
	}
	checkMet(t, r, 2, api.ErrNone)
}
