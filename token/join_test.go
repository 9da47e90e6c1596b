package token_test

import (
	"slices"
	"strings"
	"testing"

	"forelock/api"
	"forelock/token"
)

// checkJoin holds what is joined against want, and that it is scanned to the same words; the words may not change by that.
func checkJoin(t *testing.T, l []api.Word, want string) {
	t.Helper()
	kept := slices.Clone(l)
	got, err := token.Join(l)
	if got != want || err != api.OK {
		t.Errorf("Join(%d words): %s, %d; want %s, 0", len(l), short(got), err, short(want))
	}
	if !slices.Equal(l, kept) {
		t.Errorf("Join changed the words: %v; they were %v", l, kept)
	}
	again, _, err := token.Scan(got)
	if err != api.OK || !slices.Equal(without(again), without(kept)) {
		t.Errorf("Scan(%s): %v, %d; want %v, but for At", short(got), again, err, kept)
	}
}

func checkNotJoined(t *testing.T, l []api.Word, why api.Errno) {
	t.Helper()
	kept := slices.Clone(l)
	if got, err := token.Join(l); got != "" || err != why {
		t.Errorf("Join(%d words): %s, %d; want nothing, %d", len(l), short(got), err, why)
	}
	if !slices.Equal(l, kept) {
		t.Errorf("Join changed the words: %v; they were %v", l, kept)
	}
}

// without is the words without their places.
func without(l []api.Word) []api.Word {
	out := slices.Clone(l)
	for i := range out {
		out[i].At = 0
	}
	return out
}

// times is n words that are w.
func times(w api.Word, n int) []api.Word {
	return slices.Repeat([]api.Word{w}, n)
}

func TestJoinOfNone(t *testing.T) {
	checkJoin(t, nil, "")
	checkJoin(t, []api.Word{}, "")
}

func TestJoinOfOne(t *testing.T) {
	words, texts := mayBe()
	for i, w := range words {
		for _, at := range places() {
			w.At = at
			checkJoin(t, []api.Word{w}, texts[i])
		}
	}
}

// A blank stands between each two, of whatever kinds, but not ahead of a ;.
func TestJoinOfEachTwo(t *testing.T) {
	words, texts := mayBe()
	for i, v := range words {
		for j, w := range words {
			want := texts[i] + " " + texts[j]
			if texts[j] == ";" {
				want = texts[i] + ";"
			}
			checkJoin(t, []api.Word{v, w}, want)
		}
	}
}

func TestJoin(t *testing.T) {
	end := mark(";", 0)
	for _, c := range []struct {
		l    []api.Word
		want string
	}{
		{[]api.Word{name("cores", 0), num(2, 6), mark(";", 7)}, "cores 2;"},
		{[]api.Word{name("prog", 0), name("forever", 0), mark("{", 0), name("lock", 0), num(0, 0), end, mark("}", 0)}, "prog forever { lock 0; }"},
		{[]api.Word{mark("}", 0), mark("}", 0), mark("{", 0), mark(".", 0), mark("=", 0)}, "} } { . ="},
		// A ; first, in between, last, and twice.
		{[]api.Word{end, name("a", 0)}, "; a"},
		{[]api.Word{end, end}, ";;"},
		{[]api.Word{end, end, num(1, 0)}, ";; 1"},
		{[]api.Word{name("a", 0), end, num(1, 0)}, "a; 1"},
		{[]api.Word{name("a", 0), end, end, num(1, 0), end}, "a;; 1;"},
		{[]api.Word{mark("{", 0), end, mark("}", 0), end}, "{; };"},
		{times(end, 5), ";;;;;"},
		// Names and numbers side by side.
		{[]api.Word{name("a", 0), num(1, 0), name("b", 0), name("c", 0), num(2, 0), num(3, 0)}, "a 1 b c 2 3"},
		{[]api.Word{num(0, 0), num(0, 0), name("a", 0)}, "0 0 a"},
		// Places count nothing, in whatever order they are.
		{[]api.Word{name("a", 9000), num(1, -5), end, name("b", 0)}, "a 1; b"},
	} {
		checkJoin(t, c.l, c.want)
	}
}

func TestJoinOfWhatIsScanned(t *testing.T) {
	l, _, _ := token.Scan(" lock 3;{a=10}.# x\n b")
	checkJoin(t, l, "lock 3; { a = 10 } . b")
	l, _, _ = token.Scan(" ;a\n\n;#b\n")
	checkJoin(t, l, "; a;")
}

// One that may not be is told wherever it stands, alone or beside others that may, or may not.
func TestJoinOfWhatMayNotBe(t *testing.T) {
	fine := []api.Word{name("a", 0), num(1, 0), mark(";", 0)}
	for _, w := range mayNotBe() {
		checkNotJoined(t, []api.Word{w}, api.ErrArg)
		checkNotJoined(t, []api.Word{w, w}, api.ErrArg)
		for at := range len(fine) + 1 {
			checkNotJoined(t, slices.Insert(slices.Clone(fine), at, w), api.ErrArg)
		}
	}
	checkNotJoined(t, append(times(mark(";", 0), 7000), api.Word{}), api.ErrArg)
}

func TestJoinOfTheLongest(t *testing.T) {
	end := mark(";", 0)
	checkJoin(t, times(end, 7999), strings.Repeat(";", 7999))
	checkJoin(t, times(end, 8000), strings.Repeat(";", 8000))
	checkNotJoined(t, times(end, 8001), api.ErrLong)
	checkNotJoined(t, times(end, 20000), api.ErrLong)
	// A word and the blank ahead of it: 2 bytes each, but of the first.
	checkJoin(t, times(num(7, 0), 4000), strings.Repeat("7 ", 3999)+"7")
	checkNotJoined(t, times(num(7, 0), 4001), api.ErrLong)
	checkJoin(t, append(times(num(7, 0), 4000), end), strings.Repeat("7 ", 3999)+"7;")
	checkNotJoined(t, append(times(num(7, 0), 4000), end, end), api.ErrLong)
	checkNotJoined(t, append(times(num(7, 0), 4000), mark("}", 0)), api.ErrLong)
	// 13 bytes each, but of the first: 615 of them have 7994.
	long := times(name("abcdefghijkl", 0), 615)
	checkJoin(t, append(slices.Clone(long), name("abcde", 0)), strings.Repeat("abcdefghijkl ", 615)+"abcde")
	checkNotJoined(t, append(slices.Clone(long), name("abcdef", 0)), api.ErrLong)
	checkNotJoined(t, append(slices.Clone(long), name("abcdefghijkl", 0)), api.ErrLong)
	// What is short isn't told behind what is too long.
	checkNotJoined(t, append(times(end, 8001), name("a", 0)), api.ErrLong)
}

// Of both faults the one that may not be is told, though all ahead of it is too long.
func TestJoinOfBothFaults(t *testing.T) {
	for _, w := range mayNotBe() {
		many := times(mark(";", 0), 9000)
		many[8999] = w
		checkNotJoined(t, many, api.ErrArg)
		many[8999], many[0] = many[1], w
		checkNotJoined(t, many, api.ErrArg)
		many[0], many[8000] = many[1], w
		checkNotJoined(t, many, api.ErrArg)
	}
	checkNotJoined(t, append(times(name("abcdefghijkl", 0), 1<<16), api.Word{}), api.ErrArg)
}
