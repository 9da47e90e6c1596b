package token_test

import (
	"regexp"
	"slices"
	"strconv"
	"strings"
	"testing"

	"forelock/api"
	"forelock/token"
)

// The tests of this file hold each call against the chapter's words, told by patterns.

// pieces are what a script is made of, each as far as it goes: what stands between words, names, numbers, marks.
var pieces = regexp.MustCompile(`^(?:((?:[ \t\n]|#[^\n]*)+)|([a-z]+)|([0-9]+)|([{};.=]))`)

// named is what a name is.
var named = regexp.MustCompile(`\A[a-z]{1,12}\z`)

// plainScan is what Scan is to answer of s.
func plainScan(s string) ([]api.Word, int, api.Errno) {
	if len(s) > 8000 {
		return nil, 8000, api.ErrLong
	}
	var l []api.Word
	apart := true
	for at := 0; at < len(s); {
		p := pieces.FindStringSubmatch(s[at:])
		if p == nil || len(p[2]) > 12 || len(p[3]) > 9 || len(p[3]) > 1 && p[3][0] == '0' {
			return nil, at, api.ErrForm
		}
		n, _ := strconv.Atoi(p[3])
		switch {
		case p[2]+p[3] != "" && !apart:
			return nil, at, api.ErrForm
		case p[2] != "":
			l = append(l, name(p[2], at))
		case p[3] != "":
			l = append(l, num(n, at))
		case p[4] != "":
			l = append(l, mark(p[4], at))
		}
		apart = p[2]+p[3] == ""
		at += len(p[0])
	}
	return l, 0, api.OK
}

// plainText is what Text is to answer of w, "" if it may not be.
func plainText(w api.Word) string {
	switch {
	case w.Kind == 1 && w.N == 0 && named.MatchString(w.Text):
		return w.Text
	case w.Kind == 2 && w.Text == "" && w.N >= 0 && len(strconv.Itoa(w.N)) <= 9:
		return strconv.Itoa(w.N)
	case w.Kind == 3 && len(w.Text) == 1 && strings.Contains("{};.=", w.Text) && w.N == 0:
		return w.Text
	}
	return ""
}

// plainJoin is what Join is to answer of l.
func plainJoin(l []api.Word) (string, api.Errno) {
	var texts []string
	for _, w := range l {
		if plainText(w) == "" {
			return "", api.ErrArg
		}
		texts = append(texts, plainText(w))
	}
	// No word has a blank in it.
	s := strings.ReplaceAll(strings.Join(texts, " "), " ;", ";")
	if len(s) > 8000 {
		return "", api.ErrLong
	}
	return s, api.OK
}

// checkScan holds what is scanned against the plain answer, and what that is joined to against itself; it answers whether s is a script.
func checkScan(t *testing.T, s string) bool {
	t.Helper()
	l, at, err := token.Scan(s)
	want, there, why := plainScan(s)
	if !slices.Equal(l, want) || at != there || err != why {
		t.Fatalf("Scan(%q): %v, %d, %d; want %v, %d, %d", s, l, at, err, want, there, why)
	}
	if err != api.OK {
		return false
	}
	joined, why := plainJoin(l)
	if why == api.OK {
		checkJoin(t, l, joined)
	} else {
		checkNotJoined(t, l, why)
	}
	return true
}

// Each text of up to five of these bytes: two of a kind, where it matters which, and some that begin no word.
func TestEachShortText(t *testing.T) {
	const bytes = "a10 \n#;{A\xff"
	texts := []string{""}
	for range 5 {
		var longer []string
		for _, s := range texts {
			checkScan(t, s)
			for i := range len(bytes) {
				longer = append(longer, s+bytes[i:i+1])
			}
		}
		texts = longer
	}
	for _, s := range texts {
		checkScan(t, s)
	}
}

// row answers numbers below n, the same ones each time.
func row(seed uint64) func(n int) int {
	state := seed
	return func(n int) int {
		state = state*6364136223846793005 + 1442695040888963407
		return int((state ^ state>>29) >> 33 % uint64(n))
	}
}

// one is one of the texts.
func one(next func(int) int, texts []string) string {
	return texts[next(len(texts))]
}

// Texts of words and what parts them; of a hundred pieces some are at fault, so that both answers come about.
func TestManyScans(t *testing.T) {
	fine := []string{"a", "lock", "abcdefghijkl", "0", "7", "10", "999999999", ";", ";", "{", "}", ".", "=", "#a1\n", "#\n", "\t", "\n", " "}
	wrong := []string{"abcdefghijklm", "01", "1234567890", "A", ",", "\r", "\x00", "\x80", "\u00e4", "a1", "1a"}
	for _, faults := range []int{0, 1, 5} {
		next := row(uint64(faults) + 20261119)
		seen := map[bool]int{}
		for range 1500 {
			var s strings.Builder
			for range next(60) {
				s.WriteString(one(next, fine))
				if next(100) < faults {
					s.WriteString(one(next, wrong))
				}
				// Where no blank follows, names and numbers come to be side by side.
				if next(100) >= faults {
					s.WriteString(one(next, apart()))
				}
			}
			seen[checkScan(t, s.String())]++
		}
		if seen[true] < 150 || faults > 0 && seen[false] < 150 {
			t.Errorf("%d faults of a hundred: too few of one answer: %v", faults, seen)
		}
	}
}

// Texts of about as many bytes as there may be.
func TestManyLongScans(t *testing.T) {
	next := row(9)
	for range 60 {
		var s strings.Builder
		for s.Len() < 7990 {
			s.WriteString(one(next, []string{"a ", "lock ", "abcdefghijkl\n", "0;", "7\t", "999999999#\n", ";", "{", "}", ".", "="}))
		}
		text := s.String()
		for len(text) < 8002 {
			checkScan(t, text)
			text += one(next, []string{" ", ";", "{"})
		}
		checkScan(t, text)
	}
}

func TestManyJoins(t *testing.T) {
	words, _ := mayBe()
	wrong := mayNotBe()
	next := row(99)
	seen := map[api.Errno]int{}
	for i := range 1000 {
		l := make([]api.Word, next(1+4*i))
		for k := range l {
			l[k] = words[next(len(words))]
			l[k].At = next(20000) - 10000
		}
		if next(4) == 0 {
			l = slices.Insert(l, next(len(l)+1), wrong[next(len(wrong))])
		}
		want, why := plainJoin(l)
		seen[why]++
		if why == api.OK {
			checkJoin(t, l, want)
		} else {
			checkNotJoined(t, l, why)
		}
		if t.Failed() {
			t.Fatal(l)
		}
	}
	if seen[api.OK] < 100 || seen[api.ErrArg] < 100 || seen[api.ErrLong] < 100 {
		t.Errorf("too few of one answer: %v", seen)
	}
}

func TestManyTexts(t *testing.T) {
	next := row(999)
	seen := map[bool]int{}
	for range 20000 {
		w := api.Word{Kind: next(5), At: next(9000) - 500}
		for range next(3) * next(8) {
			w.Text += one(next, []string{"a", "b", "q", "z", "a", "b", "q", "z", "a", "b", "q", "z", "0", ";", " ", "A"})
		}
		if next(3) == 0 {
			w.Text = one(next, append(marks(), "", ",", ";;"))
		}
		if next(2) == 0 {
			w.N = next(1<<31) - 500000000
		}
		want := plainText(w)
		seen[want != ""]++
		if want != "" {
			checkText(t, w, want)
		} else {
			checkNoWord(t, w)
		}
		if t.Failed() {
			t.FailNow()
		}
	}
	if seen[true] < 1000 || seen[false] < 1000 {
		t.Errorf("too few of one answer: %v", seen)
	}
}
