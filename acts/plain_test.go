package acts_test

import (
	"math"
	"slices"
	"strconv"
	"strings"
	"testing"

	"forelock/acts"
	"forelock/api"
	"forelock/token"
)

// This file has what the other tests hold the calls against: the chapter's words, told once more.

func name(text string) api.Word {
	return api.Word{Kind: api.WordName, Text: text}
}

func num(n int) api.Word {
	return api.Word{Kind: api.WordNum, N: n}
}

func mark(text string) api.Word {
	return api.Word{Kind: api.WordMark, Text: text}
}

// scanned is the words of a text that is one, with their places in it.
func scanned(t *testing.T, s string) []api.Word {
	t.Helper()
	l, at, err := token.Scan(s)
	if err != api.OK {
		t.Fatalf("Scan(%q): %d, %d", s, at, err)
	}
	return l
}

// told is words as a fault tells them: not as token does, as they may be none. Of many words the last ones are enough.
func told(l []api.Word) string {
	var texts []string
	for _, w := range l[max(0, len(l)-40):] {
		switch {
		case w.Kind == 2 && w.Text == "":
			texts = append(texts, strconv.Itoa(w.N))
		case (w.Kind == 1 || w.Kind == 3) && w.N == 0 && len(w.Text) < 20:
			texts = append(texts, w.Text)
		default:
			texts = append(texts, "["+strconv.Itoa(w.Kind)+" "+strconv.Quote(w.Text[:min(len(w.Text), 20)])+" "+strconv.Itoa(w.N)+"]")
		}
	}
	return strconv.Itoa(len(l)) + " words: " + strconv.Quote(strings.Join(texts, " "))
}

// toldActs is acts as a fault tells them.
func toldActs(l []api.Act) string {
	s := strconv.Itoa(len(l)) + " acts:"
	for _, a := range l[max(0, len(l)-20):] {
		s += " {"
		for _, n := range []int{a.Kind, a.A, a.B, a.C, a.D} {
			s += " " + strconv.Itoa(n)
		}
		s += " }"
	}
	return s
}

// ask is what the chapter asks of acts of one kind: their first word, and how many numbers they have.
type ask struct {
	kind    int
	name    string
	numbers int
}

func asks() []ask {
	return []ask{
		{1, "tick", 1}, {2, "fire", 0}, {3, "balance", 0}, {4, "spawn", 4},
		{5, "kill", 1}, {6, "group", 2}, {7, "move", 2}, {8, "round", 1},
	}
}

// act is one of that kind, with these numbers, of which there may be fewer than four.
func act(kind int, numbers ...int) api.Act {
	all := append(slices.Clone(numbers), 0, 0, 0, 0)
	return api.Act{Kind: kind, A: all[0], B: all[1], C: all[2], D: all[3]}
}

// plainNumbers is how many numbers an act has that begins with w, -1 if none does; and its kind.
func plainNumbers(w api.Word) (int, int) {
	for _, a := range asks() {
		if w.Kind == 1 && w.Text == a.name && w.N == 0 {
			return a.numbers, a.kind
		}
	}
	return -1, 0
}

// plainParse is what Parse is to answer.
func plainParse(l []api.Word, at int) ([]api.Act, int, api.Errno) {
	if at < 0 || at > len(l) {
		return nil, 0, api.ErrForm
	}
	var all []api.Act
	for at < len(l) {
		count, kind := plainNumbers(l[at])
		if count < 0 {
			return nil, at, api.ErrForm
		}
		if len(all) == 4000 {
			return nil, at, api.ErrLong
		}
		at++
		var numbers []int
		for len(numbers) < count {
			if at == len(l) || l[at].Kind != 2 || l[at].Text != "" || l[at].N < 0 || l[at].N >= 1000000000 {
				return nil, at, api.ErrForm
			}
			numbers = append(numbers, l[at].N)
			at++
		}
		if at == len(l) || l[at].Kind != 3 || l[at].Text != ";" || l[at].N != 0 {
			return nil, at, api.ErrForm
		}
		at++
		all = append(all, act(kind, numbers...))
	}
	return all, len(l), api.OK
}

func plainMayAct(x api.Act) bool {
	for _, a := range asks() {
		if a.kind != x.Kind {
			continue
		}
		for i, n := range []int{x.A, x.B, x.C, x.D} {
			if n < 0 || i < a.numbers && n > 999999999 || i >= a.numbers && n > 0 {
				return false
			}
		}
		return true
	}
	return false
}

// plainWhy is why there are no words of these acts.
func plainWhy(l []api.Act) api.Errno {
	for _, a := range l {
		if !plainMayAct(a) {
			return api.ErrArg
		}
	}
	if len(l) > 4000 {
		return api.ErrLong
	}
	return api.OK
}

// plainText is the text of acts of which each may be, however long it is.
func plainText(l []api.Act) string {
	var texts []string
	for _, x := range l {
		a := asks()[x.Kind-1]
		s := a.name
		for _, n := range []int{x.A, x.B, x.C, x.D}[:a.numbers] {
			s += " " + strconv.Itoa(n)
		}
		texts = append(texts, s+";")
	}
	return strings.Join(texts, " ")
}

// plainWords is the words of acts of which each may be.
func plainWords(l []api.Act) []api.Word {
	var all []api.Word
	for _, x := range l {
		a := asks()[x.Kind-1]
		all = append(all, name(a.name))
		for _, n := range []int{x.A, x.B, x.C, x.D}[:a.numbers] {
			all = append(all, num(n))
		}
		all = append(all, mark(";"))
	}
	return all
}

// checkParse holds Parse against these answers; the words may not change by that.
func checkParse(t *testing.T, l []api.Word, at int, want []api.Act, place int, why api.Errno) {
	t.Helper()
	kept := slices.Clone(l)
	got, n, err := acts.Parse(l, at)
	if !slices.Equal(got, want) || n != place || err != why {
		t.Errorf("Parse from %d of %s: %s, %d, %d; want %s, %d, %d", at, told(l), toldActs(got), n, err, toldActs(want), place, why)
	}
	if !slices.Equal(l, kept) {
		t.Errorf("Parse changed the words: %s; they were %s", told(l), told(kept))
	}
}

func checkRefused(t *testing.T, l []api.Word, at int, place int, why api.Errno) {
	t.Helper()
	checkParse(t, l, at, nil, place, why)
}

// checkPlain holds Parse against the plain answer, which it answers itself.
func checkPlain(t *testing.T, l []api.Word, at int) api.Errno {
	t.Helper()
	want, place, why := plainParse(l, at)
	checkParse(t, l, at, want, place, why)
	return why
}

// checkWhy holds May, Words and Print of acts against why there are no words of them (api.OK, if there are); and what there is of words, and of a text, against itself parsed.
func checkWhy(t *testing.T, l []api.Act, why api.Errno) {
	t.Helper()
	kept := slices.Clone(l)
	if got := acts.May(l); got != (why == api.OK) {
		t.Errorf("May of %s: %t", toldActs(l), got)
	}
	var words []api.Word
	text, whyText := "", why
	if why == api.OK {
		words, text = plainWords(l), plainText(l)
		if len(text) > 8000 {
			text, whyText = "", api.ErrLong
		}
		checkParse(t, words, 0, l, len(words), api.OK)
	}
	if got, err := acts.Words(l); !slices.Equal(got, words) || err != why {
		t.Errorf("Words of %s: %s, %d; want %s, %d", toldActs(l), told(got), err, told(words), why)
	}
	if got, err := acts.Print(l); got != text || err != whyText {
		t.Errorf("Print of %s: %d bytes, %q, %d; want %d, %q, %d", toldActs(l), len(got), got[max(0, len(got)-80):], err, len(text), text[max(0, len(text)-80):], whyText)
	}
	if whyText == api.OK {
		again := scanned(t, text)
		checkParse(t, again, 0, l, len(again), api.OK)
	}
	if !slices.Equal(l, kept) {
		t.Errorf("the acts were changed: %s; they were %s", toldActs(l), toldActs(kept))
	}
}

// edges are of each kind the acts of which each number is the least or the greatest that may be, or 1.
func edges() []api.Act {
	var l []api.Act
	for _, a := range asks() {
		rows := [][]int{nil}
		for range a.numbers {
			var longer [][]int
			for _, row := range rows {
				for _, n := range []int{0, 1, 999999999} {
					longer = append(longer, append(slices.Clone(row), n))
				}
			}
			rows = longer
		}
		for _, row := range rows {
			l = append(l, act(a.kind, row...))
		}
	}
	return l
}

// outside are numbers that no act has.
func outside() []int {
	return []int{-1, -2, -999999999, 1000000000, 1000000001, 9999999999, 1<<31 - 1, 1 << 31, 1 << 32, 1<<32 + 1, -1 << 32, math.MaxInt, math.MaxInt - 1, math.MinInt, math.MinInt + 1}
}

// noKinds are numbers that no kind has.
func noKinds() []int {
	return []int{0, -1, -2, -8, 9, 10, 11, 16, 100, 1<<8 + 1, 1<<16 + 2, 1<<32 + 1, 1<<32 + 8, math.MaxInt, math.MinInt, math.MinInt + 1}
}

// whole is the text of an act of each kind, and of one more.
func whole() string {
	return "tick 3; fire; balance; spawn 0 1 2 3; kill 9; group 0 16; move 5 1; round 200; tick 0;"
}

// row answers numbers below n, the same ones each time.
func row(seed uint64) func(n int) int {
	state := seed
	return func(n int) int {
		state = state*6364136223846793005 + 1442695040888963407
		return int((state ^ state>>29) >> 33 % uint64(n))
	}
}
