package setup_test

import (
	"math"
	"slices"
	"strconv"
	"strings"
	"testing"

	"forelock/api"
	"forelock/setup"
)

// The tests of this file hold Parse against words that are changed.

// Each word of a setup that is changed for another one, or left out, or stands twice.
func TestParseOfAnotherWord(t *testing.T) {
	others := []api.Word{{}, mark("{"), mark("}"), mark(";"), mark("."), mark("=")}
	for _, text := range []string{"x", "cores", "grain", "group", "lock", "shared", "slice", "crit", "read", "write", "prog", "forever", "exit", "compute"} {
		others = append(others, name(text))
	}
	for _, n := range []int{-1, 0, 1, 4, 5, 8, 9, 16, 17, 32, 33, 999999999} {
		others = append(others, num(n))
	}
	seen := map[api.Errno]int{}
	for _, s := range []string{least(), whole(), full(), head() + "lock slice 1 crit 1; prog { lock 0; compute 1; }"} {
		l := scanned(t, s)
		for i := range l {
			for _, w := range others {
				changed := slices.Clone(l)
				changed[i] = w
				seen[checkPlain(t, changed, 0)]++
				seen[checkPlain(t, slices.Insert(slices.Clone(l), i, w), 0)]++
			}
			seen[checkPlain(t, slices.Delete(slices.Clone(l), i, i+1), 0)]++
		}
	}
	for _, err := range []api.Errno{api.OK, api.ErrForm, api.ErrArg, api.ErrNone, api.ErrLong, api.ErrCrit} {
		if seen[err] == 0 {
			t.Errorf("%d never came: %v", err, seen)
		}
	}
}

// broken are words that are nearly w, but that none are, as they have fields which a word of their kind has not, or are of another kind.
func broken(w api.Word) []api.Word {
	var l []api.Word
	for _, kind := range []int{math.MinInt, -1, 0, 1, 2, 3, 4, 1<<32 + 1, 1<<32 + 2, 1<<32 + 3, math.MaxInt} {
		if kind != w.Kind {
			l = append(l, api.Word{Kind: kind, Text: w.Text, N: w.N})
		}
	}
	if w.Kind == api.WordNum {
		for _, text := range []string{"0", strconv.Itoa(w.N), "x", ";", " ", "\x00"} {
			l = append(l, api.Word{Kind: w.Kind, Text: text, N: w.N})
		}
		return l
	}
	for _, n := range []int{math.MinInt, -1, 1, 2, 7, math.MaxInt} {
		l = append(l, api.Word{Kind: w.Kind, Text: w.Text, N: n})
	}
	for _, text := range []string{"", w.Text + " ", " " + w.Text, w.Text + w.Text, w.Text + "\x00", strings.ToUpper("a" + w.Text), "\u00e4"} {
		l = append(l, api.Word{Kind: w.Kind, Text: text})
	}
	return l
}

func TestParseOfBrokenWords(t *testing.T) {
	for _, s := range []string{least(), whole(), full()} {
		l := scanned(t, s)
		progs := progEnds(l)
		for i, w := range l {
			for _, b := range broken(w) {
				changed := slices.Clone(l)
				b.At = w.At
				changed[i] = b
				// Behind a program it may end, so that one that begins with no word of its own is none of it.
				if !slices.Contains(progs, i) {
					checkRefused(t, changed, 0, i, api.ErrForm)
				} else {
					checkPlain(t, changed, 0)
				}
			}
		}
	}
	// A number that may not be, with a Text beside it, is no number.
	checkRefused(t, []api.Word{name("cores"), {Kind: api.WordNum, Text: "5", N: 5}}, 0, 1, api.ErrForm)
	checkRefused(t, []api.Word{name("cores"), {Kind: api.WordNum, Text: "x", N: -1}}, 0, 1, api.ErrForm)
	// Nor is one too many there, where none begins.
	groups := scanned(t, "cores 1; grain 1; group 1; group 2; group 3; group 4; ")
	for _, b := range broken(name("group")) {
		checkRefused(t, append(slices.Clone(groups), b), 0, len(groups), api.ErrForm)
	}
	locks := scanned(t, head()+strings.Repeat("lock slice 1 crit 1; ", 8))
	for _, b := range slices.Concat(broken(name("lock")), broken(name("shared"))) {
		checkRefused(t, append(slices.Clone(locks), b), 0, len(locks), api.ErrForm)
	}
	progs := head() + strings.Repeat("prog { exit; } ", 8)
	for _, b := range broken(name("prog")) {
		l := scanned(t, progs)
		checkParse(t, append(slices.Clone(l), b), 0, parsed(t, progs), len(l), api.OK)
	}
}

// Where words stand in a text counts nothing.
func TestParseOfAnyPlaces(t *testing.T) {
	l := scanned(t, whole())
	want := parsed(t, whole())
	misfit := scanned(t, head()+"prog { lock 0; }")
	for _, at := range []int{math.MinInt, -1, 0, 1, 7999, 8000, math.MaxInt} {
		for i := range l {
			l[i].At = at
		}
		for i := range misfit {
			misfit[i].At = at
		}
		checkParse(t, l, 0, want, len(l), api.OK)
		checkRefused(t, l, 1, 1, api.ErrForm)
		checkRefused(t, misfit, 0, 9, api.ErrNone)
	}
}

func TestParseAnswersAnew(t *testing.T) {
	l := scanned(t, whole())
	first, _, _ := setup.Parse(l, 0)
	second, _, _ := setup.Parse(l, 0)
	want := clone(second)
	for i := range first.Progs {
		for k := range first.Progs[i].Ops {
			first.Progs[i].Ops[k] = api.Op{}
		}
		first.Progs[i] = api.Prog{}
	}
	first.Groups[0], first.Locks[0], first.Locks[1] = 99, api.Lock{}, api.Lock{}
	first.Groups = append(first.Groups[:1], 7)
	checkSame(t, second, want, true)
	checkParse(t, l, 0, want, len(l), api.OK)
	for i := range l {
		l[i] = api.Word{}
	}
	checkSame(t, second, want, true)
}

// No two lists of one answer share anything.
func TestParseSharesNothing(t *testing.T) {
	s := head() + strings.Repeat("prog { sleep 5; } ", 8)
	x := parsed(t, s)
	for i := range x.Progs {
		x.Progs[i].Ops[0].A = i + 1
		x.Progs[i].Ops = append(x.Progs[i].Ops, api.Op{Kind: api.OpExit})
	}
	for i, p := range x.Progs {
		if p.Ops[0].A != i+1 {
			t.Errorf("the program %d hangs on another one: %v", i, x.Progs)
		}
	}
}
