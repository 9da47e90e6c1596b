package token_test

import (
	"math"
	"strconv"
	"strings"
	"testing"
	"unsafe"

	"forelock/api"
	"forelock/token"
)

func checkText(t *testing.T, w api.Word, want string) {
	t.Helper()
	if got, err := token.Text(w); got != want || err != api.OK {
		t.Errorf("Text(%v): %q, %d; want %q, 0", w, got, err, want)
	}
}

func checkNoWord(t *testing.T, w api.Word) {
	t.Helper()
	if got, err := token.Text(w); got != "" || err != api.ErrArg {
		t.Errorf("Text(%v): %q, %d; want nothing, %d", w, got, err, api.ErrArg)
	}
}

// places are some that a word may say it stands at, of a text or of none.
func places() []int {
	return []int{math.MinInt, -1, 0, 1, 7999, 8000, 8001, math.MaxInt}
}

// mayBe are some words that may be, with their texts.
func mayBe() ([]api.Word, []string) {
	var words []api.Word
	var texts []string
	for _, text := range []string{"a", "z", "m", "lock", "aa", "abcdefghijk", "abcdefghijkl", "zzzzzzzzzzzz"} {
		words = append(words, name(text, 0))
		texts = append(texts, text)
	}
	for _, n := range []int{0, 1, 9, 10, 64, 720720, 99999999, 100000000, 999999998, 999999999} {
		words = append(words, num(n, 0))
		texts = append(texts, strconv.Itoa(n))
	}
	for _, m := range marks() {
		words = append(words, mark(m, 0))
		texts = append(texts, m)
	}
	return words, texts
}

// mayNotBe are some words of which each has one thing alone that may not be.
func mayNotBe() []api.Word {
	var l []api.Word
	for _, text := range []string{
		"", "abcdefghijklm", strings.Repeat("z", 1<<16), " ", "a b", " a", "a ", "a\n", "#", "a#", "a1", "1a", "1", "0",
		"A", "aB", "Ab", "a\x00", "\x00", "`", "{", "|", "/", ":", "@", "[", "}", ";", ".", "=", "a;", ";a", ",", "\x7f", "\xff", "a\xff",
		"\u00e4", "a\u00e4b", "\u0430", "abcdefghijk ", "abcdefghijkL", "1bcdefghijkl",
	} {
		l = append(l, api.Word{Kind: api.WordName, Text: text})
	}
	for _, n := range []int{math.MinInt, -999999999, -10, -1, 1000000000, 1000000001, 1 << 31, 1 << 32, 1<<32 + 5, 1 << 40, math.MaxInt} {
		l = append(l, api.Word{Kind: api.WordNum, N: n})
	}
	for _, text := range []string{
		"", ";;", "{}", "; ", " ;", ";\n", " ", "\n", "\t", "#", ",", ":", "<", ">", "(", ")", "[", "]", "|", "-", "/", "a", "1", "0", "\x00", "\xff", "==", ".=", "...", "{ }", "\u037e", "\uff1b",
	} {
		l = append(l, api.Word{Kind: api.WordMark, Text: text})
	}
	for _, n := range []int{math.MinInt, -1, 1, 3, math.MaxInt} {
		l = append(l, api.Word{Kind: api.WordName, Text: "a", N: n}, api.Word{Kind: api.WordMark, Text: ";", N: n})
	}
	for _, text := range []string{"0", "1", "7", "a", ";", " ", "07", "\x00"} {
		l = append(l, api.Word{Kind: api.WordNum, Text: text}, api.Word{Kind: api.WordNum, Text: text, N: 7})
	}
	for _, kind := range []int{math.MinInt, -3, -1, 0, 4, 5, 257, 258, 259, 1<<32 + 1, math.MaxInt} {
		l = append(l, api.Word{Kind: kind}, api.Word{Kind: kind, Text: "a"}, api.Word{Kind: kind, N: 7}, api.Word{Kind: kind, Text: ";"})
	}
	return l
}

func TestText(t *testing.T) {
	words, texts := mayBe()
	for i, w := range words {
		for _, at := range places() {
			w.At = at
			checkText(t, w, texts[i])
		}
	}
}

func TestTextOfWhatMayNotBe(t *testing.T) {
	for _, w := range mayNotBe() {
		for _, at := range places() {
			w.At = at
			checkNoWord(t, w)
		}
	}
}

func TestTextOfEachByte(t *testing.T) {
	for c := range 256 {
		s := string([]byte{byte(c)})
		if c >= 'a' && c <= 'z' {
			checkText(t, name(s, 0), s)
			checkText(t, name("b"+s+"b", 0), "b"+s+"b")
		} else {
			checkNoWord(t, name(s, 0))
			checkNoWord(t, name(s+"b", 0))
			checkNoWord(t, name("b"+s, 0))
		}
		if strings.Contains("{};.=", s) {
			checkText(t, mark(s, 0), s)
		} else {
			checkNoWord(t, mark(s, 0))
		}
		checkNoWord(t, mark(s+s, 0))
	}
}

func TestTextOfNamesOfEachLength(t *testing.T) {
	for n := range 40 {
		s := strings.Repeat("q", n)
		if n >= 1 && n <= 12 {
			checkText(t, name(s, 0), s)
		} else {
			checkNoWord(t, name(s, 0))
		}
	}
}

// What Text answers stands in a script for that word and no other.
func TestTextIsScannedToTheWord(t *testing.T) {
	words, texts := mayBe()
	for i, w := range words {
		checkWords(t, texts[i], w)
	}
}

// What is handed in isn't kept: no answer shares its bytes.
func TestTextsAreNewMemory(t *testing.T) {
	s := strings.Repeat("lock ", 9)
	l, _, _ := token.Scan(s)
	for _, w := range l {
		if unsafe.StringData(w.Text) == unsafe.StringData(s[w.At:]) {
			t.Errorf("the word at %d is a piece of the text that was scanned", w.At)
		}
		text, _ := token.Text(w)
		if unsafe.StringData(text) == unsafe.StringData(w.Text) {
			t.Errorf("the text of the word at %d is the word's own", w.At)
		}
	}
}
