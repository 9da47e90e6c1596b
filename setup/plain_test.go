package setup_test

import (
	"reflect"
	"slices"
	"strconv"
	"strings"
	"testing"

	"forelock/api"
	"forelock/crit"
	"forelock/prog"
	"forelock/setup"
	"forelock/token"
)

// This file has what the other tests hold the calls against: the chapter's words, told once more, over those of the layers below.

func name(text string) api.Word {
	return api.Word{Kind: api.WordName, Text: text}
}

func num(n int) api.Word {
	return api.Word{Kind: api.WordNum, N: n}
}

func mark(text string) api.Word {
	return api.Word{Kind: api.WordMark, Text: text}
}

// scanned is the words of a text that is one, with their places in it.
func scanned(t *testing.T, s string) []api.Word {
	t.Helper()
	l, at, err := token.Scan(s)
	if err != api.OK {
		t.Fatalf("Scan(%q): %d, %d", s, at, err)
	}
	return l
}

// parsed is the setup of a text, which must be one, and nothing more.
func parsed(t *testing.T, s string) api.Setup {
	t.Helper()
	l := scanned(t, s)
	x, n, err := setup.Parse(l, 0)
	if n != len(l) || err != api.OK {
		t.Fatalf("Parse(%q): %d, %d", s, n, err)
	}
	return x
}

// told is words as a fault tells them: not as token does, as they may be none.
func told(l []api.Word) string {
	var texts []string
	for _, w := range l {
		switch {
		case w.Kind == 2 && w.Text == "":
			texts = append(texts, strconv.Itoa(w.N))
		case (w.Kind == 1 || w.Kind == 3) && w.N == 0 && len(w.Text) < 20:
			texts = append(texts, w.Text)
		default:
			texts = append(texts, "["+strconv.Itoa(w.Kind)+" "+strconv.Quote(w.Text[:min(len(w.Text), 20)])+" "+strconv.Itoa(w.N)+"]")
		}
	}
	return strconv.Quote(strings.Join(texts, " "))
}

// met is what stops the plain reader: a place, and the error.
type met struct {
	place int
	why   api.Errno
}

// plainReader reads words, and stops with a panic where it can't go on.
type plainReader struct {
	l  []api.Word
	at int
}

func (r *plainReader) sees(text string) bool {
	if r.at == len(r.l) {
		return false
	}
	w := r.l[r.at]
	kind := 1
	if text == ";" {
		kind = 3
	}
	return w.Kind == kind && w.Text == text && w.N == 0
}

func (r *plainReader) must(text string) {
	if !r.sees(text) {
		panic(met{r.at, api.ErrForm})
	}
	r.at++
}

func (r *plainReader) upTo(most int) int {
	if r.at == len(r.l) || r.l[r.at].Kind != 2 || r.l[r.at].Text != "" {
		panic(met{r.at, api.ErrForm})
	}
	n := r.l[r.at].N
	if n < 1 || n > most {
		panic(met{r.at, api.ErrArg})
	}
	r.at++
	return n
}

// room stops where there are so many already.
func (r *plainReader) room(there, most int) {
	if there == most {
		panic(met{r.at, api.ErrLong})
	}
}

// setup reads all words of one, and answers where its programs begin.
func (r *plainReader) setup() (api.Setup, []int) {
	var s api.Setup
	r.must("cores")
	s.Cores = r.upTo(4)
	r.must(";")
	r.must("grain")
	s.Grain = r.upTo(8)
	r.must(";")
	for len(s.Groups) == 0 || r.sees("group") {
		r.room(len(s.Groups), 4)
		r.must("group")
		s.Groups = append(s.Groups, r.upTo(16))
		r.must(";")
	}
	for r.sees("lock") || r.sees("shared") {
		r.room(len(s.Locks), 8)
		s.Locks = append(s.Locks, r.lock())
	}
	var starts []int
	for len(s.Progs) == 0 || r.sees("prog") {
		r.room(len(s.Progs), 8)
		p, n, err := prog.Parse(r.l, r.at)
		if err != api.OK {
			panic(met{n, err})
		}
		starts = append(starts, r.at)
		s.Progs = append(s.Progs, p)
		r.at = n
	}
	return s, starts
}

func (r *plainReader) lock() api.Lock {
	var k api.Lock
	k.Shared = r.sees("shared")
	r.at++
	r.must("slice")
	k.Slice = r.upTo(16)
	r.must("crit")
	k.Crit = r.upTo(32)
	if k.Shared {
		r.must("read")
		k.Read = r.upTo(16)
		r.must("write")
		k.Write = r.upTo(16)
	}
	r.must(";")
	return k
}

// plainParse is what Parse is to answer.
func plainParse(l []api.Word, at int) (s api.Setup, place int, why api.Errno) {
	if at < 0 || at > len(l) {
		return api.Setup{}, 0, api.ErrForm
	}
	defer func() {
		if x := recover(); x != nil {
			s, place, why = api.Setup{}, x.(met).place, x.(met).why
		}
	}()
	r := plainReader{l, at}
	s, starts := r.setup()
	for i, p := range s.Progs {
		if _, err := crit.Check(p, s.Locks, len(s.Progs)); err != api.OK {
			return api.Setup{}, starts[i], err
		}
	}
	return s, r.at, api.OK
}

func within(n, least, most int) bool {
	return least <= n && n <= most
}

// plainMay is what May is to answer.
func plainMay(s api.Setup) bool {
	ok := within(s.Cores, 1, 4) && within(s.Grain, 1, 8) && within(len(s.Groups), 1, 4) && len(s.Locks) <= 8 && within(len(s.Progs), 1, 8)
	for _, weight := range s.Groups {
		ok = ok && within(weight, 1, 16)
	}
	for _, k := range s.Locks {
		ok = ok && within(k.Slice, 1, 16) && within(k.Crit, 1, 32)
		if k.Shared {
			ok = ok && within(k.Read, 1, 16) && within(k.Write, 1, 16)
		} else {
			ok = ok && k.Read == 0 && k.Write == 0
		}
	}
	for _, p := range s.Progs {
		_, err := crit.Check(p, s.Locks, len(s.Progs))
		ok = ok && err == api.OK
	}
	return ok
}

// plainPrint is the text of a setup that may be; of others it says what is there, if their programs may be.
func plainPrint(s api.Setup) string {
	texts := []string{"cores " + strconv.Itoa(s.Cores) + ";", "grain " + strconv.Itoa(s.Grain) + ";"}
	for _, weight := range s.Groups {
		texts = append(texts, "group "+strconv.Itoa(weight)+";")
	}
	for _, k := range s.Locks {
		text := "slice " + strconv.Itoa(k.Slice) + " crit " + strconv.Itoa(k.Crit)
		if k.Shared {
			text = "shared " + text + " read " + strconv.Itoa(k.Read) + " write " + strconv.Itoa(k.Write)
		} else {
			text = "lock " + text
		}
		texts = append(texts, text+";")
	}
	for _, p := range s.Progs {
		text, _ := prog.Print(p)
		texts = append(texts, text)
	}
	return strings.Join(texts, " ")
}

// bare is a setup whose empty lists are all nil: whether one is nil or empty counts nothing.
func bare(s api.Setup) api.Setup {
	x := api.Setup{Cores: s.Cores, Grain: s.Grain}
	x.Groups = append(x.Groups, s.Groups...)
	x.Locks = append(x.Locks, s.Locks...)
	for _, p := range s.Progs {
		var ops []api.Op
		x.Progs = append(x.Progs, api.Prog{Forever: p.Forever, Ops: append(ops, p.Ops...)})
	}
	return x
}

// plainSame is what Same is to answer.
func plainSame(a, b api.Setup) bool {
	return reflect.DeepEqual(bare(a), bare(b))
}

// clone is a setup of memory of its own.
func clone(s api.Setup) api.Setup {
	x := s
	x.Groups, x.Locks, x.Progs = slices.Clone(s.Groups), slices.Clone(s.Locks), slices.Clone(s.Progs)
	for i := range x.Progs {
		x.Progs[i].Ops = slices.Clone(x.Progs[i].Ops)
	}
	return x
}

// checkParse holds Parse against these answers; the words may not change by that.
func checkParse(t *testing.T, l []api.Word, at int, want api.Setup, place int, why api.Errno) {
	t.Helper()
	kept := slices.Clone(l)
	s, n, err := setup.Parse(l, at)
	if !plainSame(s, want) || n != place || err != why {
		t.Errorf("Parse(%s, %d): %v, %d, %d; want %v, %d, %d", told(l), at, s, n, err, want, place, why)
	}
	if !slices.Equal(l, kept) {
		t.Errorf("Parse changed the words: %s; they were %s", told(l), told(kept))
	}
}

func checkRefused(t *testing.T, l []api.Word, at int, place int, why api.Errno) {
	t.Helper()
	checkParse(t, l, at, api.Setup{}, place, why)
}

// checkPlain holds Parse against the plain answer, whose error it answers.
func checkPlain(t *testing.T, l []api.Word, at int) api.Errno {
	t.Helper()
	s, place, why := plainParse(l, at)
	checkParse(t, l, at, s, place, why)
	return why
}

// checkMay holds May, Words and Print of a setup that may be against its text, and what that is parsed to against itself.
func checkMay(t *testing.T, s api.Setup) {
	t.Helper()
	kept := clone(s)
	if !setup.May(s) {
		t.Errorf("May(%v): false", s)
	}
	want := plainPrint(s)
	text, err := setup.Print(s)
	if text != want || err != api.OK {
		t.Errorf("Print(%v): %q, %d; want %q, 0", s, text, err, want)
	}
	words := scanned(t, want)
	checkParse(t, words, 0, s, len(words), api.OK)
	for i := range words {
		words[i].At = 0
	}
	l, err := setup.Words(s)
	if !slices.Equal(l, words) || err != api.OK {
		t.Errorf("Words(%v): %v, %d; want %v, 0", s, l, err, words)
	}
	if !reflect.DeepEqual(s, kept) {
		t.Errorf("the setup was changed: %v; it was %v", s, kept)
	}
}

func checkMayNot(t *testing.T, s api.Setup) {
	t.Helper()
	kept := clone(s)
	if setup.May(s) {
		t.Errorf("May(%v): true", s)
	}
	if l, err := setup.Words(s); len(l) != 0 || err != api.ErrArg {
		t.Errorf("Words(%v): %v, %d; want none, %d", s, l, err, api.ErrArg)
	}
	if text, err := setup.Print(s); text != "" || err != api.ErrArg {
		t.Errorf("Print(%v): %q, %d; want nothing, %d", s, text, err, api.ErrArg)
	}
	if !reflect.DeepEqual(s, kept) {
		t.Errorf("the setup was changed: %v; it was %v", s, kept)
	}
}

// checkSame holds Same of both, in either order, against that answer; neither may change by that.
func checkSame(t *testing.T, a, b api.Setup, want bool) {
	t.Helper()
	keptA, keptB := clone(a), clone(b)
	if got := setup.Same(a, b); got != want {
		t.Errorf("Same(%v, %v): %t", a, b, got)
	}
	if got := setup.Same(b, a); got != want {
		t.Errorf("Same(%v, %v): %t", b, a, got)
	}
	if !reflect.DeepEqual(a, keptA) || !reflect.DeepEqual(b, keptB) {
		t.Error("Same changed what it was given")
	}
}

// whole has two of each list, locks that are Shared and not, and programs that hold both.
func whole() string {
	return "cores 2; grain 3; group 4; group 5; lock slice 6 crit 7; shared slice 8 crit 9 read 10 write 11; " +
		"prog { lock 0; compute 2; unlock 0; spawn 1; timed 1 12; compute 9; unlock 1; } prog forever { read 1; compute 1; unlock 1; }"
}

// full has as much of all as there may be, and so the longest text: no op's is longer than that of these.
func full() string {
	return "cores 4; grain 8; " + strings.Repeat("group 16; ", 4) + strings.Repeat("shared slice 16 crit 32 read 16 write 16; ", 8) +
		strings.TrimSuffix(strings.Repeat("prog forever { "+strings.Repeat("compute 16; ", 12)+"} ", 8), " ")
}

// least has as little of all as there may be.
func least() string {
	return "cores 1; grain 1; group 1; prog { exit; }"
}

// head is all that stands ahead of locks: 9 words.
func head() string {
	return "cores 1; grain 1; group 1; "
}

// row answers numbers below n, the same ones each time.
func row(seed uint64) func(n int) int {
	state := seed
	return func(n int) int {
		state = state*6364136223846793005 + 1442695040888963407
		return int((state ^ state>>29) >> 33 % uint64(n))
	}
}

// program is that of a text, whatever it fits.
func program(t *testing.T, s string) api.Prog {
	t.Helper()
	p, _, err := prog.Parse(scanned(t, s), 0)
	if err != api.OK {
		t.Fatalf("Parse(%q): %d", s, err)
	}
	return p
}
