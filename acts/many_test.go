package acts_test

import (
	"slices"
	"testing"

	"forelock/api"
)

// The tests of this file hold the calls against the plain answers, at many arguments.

// Each list of up to so many words, alone and behind the beginning of others.
func TestEachShortList(t *testing.T) {
	vocabulary := []api.Word{{}, name("tick"), name("fire"), name("group"), name("spawn"), name("x"), num(0), num(999999999), num(-1), mark(";"), mark("}")}
	seen := map[api.Errno]int{}
	for _, ahead := range []string{"", "fire; ", "spawn 1 2 "} {
		lists := [][]api.Word{scanned(t, ahead)}
		for range 4 {
			var longer [][]api.Word
			for _, l := range lists {
				for _, w := range vocabulary {
					longer = append(longer, append(slices.Clone(l), w))
				}
			}
			for _, l := range longer {
				seen[checkPlain(t, l, 0)]++
			}
			lists = longer
		}
	}
	if seen[api.OK] < 20 || seen[api.ErrForm] < 10000 {
		t.Errorf("how often which answer came: %v", seen)
	}
}

// anyAct is an act that may be.
func anyAct(next func(int) int) api.Act {
	a := asks()[next(8)]
	var numbers []int
	for range a.numbers {
		most := []int{2, 17, 1000, 1000000000}[next(4)]
		numbers = append(numbers, next(most))
	}
	return act(a.kind, numbers...)
}

func anyList(next func(int) int, most int) []api.Act {
	var l []api.Act
	for range next(most) {
		l = append(l, anyAct(next))
	}
	return l
}

// Acts that may be are printed, and that is parsed to themselves; now and then one may not be.
func TestManyLists(t *testing.T) {
	next := row(20261120)
	seen := map[api.Errno]int{}
	for range 3000 {
		l := anyList(next, 30)
		for range next(2) * min(len(l), 1) {
			a := &l[next(len(l))]
			by := []int{-1, 1, 999999999, 1000000000}[next(4)]
			switch next(5) {
			case 0:
				a.Kind += next(9) - 4
			case 1:
				a.A += by
			case 2:
				a.B += by
			case 3:
				a.C += by
			case 4:
				a.D += by
			}
		}
		why := plainWhy(l)
		seen[why]++
		checkWhy(t, l, why)
		if t.Failed() {
			t.FailNow()
		}
	}
	if seen[api.OK] < 1000 || seen[api.ErrArg] < 500 {
		t.Errorf("too few of one answer: %v", seen)
	}
}

// Long lists, about as long as a text may be, and as many as acts may be.
func TestManyLongLists(t *testing.T) {
	next := row(13)
	seen := map[bool]int{}
	for range 100 {
		var l []api.Act
		size := 7900 + next(200)
		for len(plainText(l)) < size {
			for range 1 + max(0, size-len(plainText(l)))/60 {
				l = append(l, anyAct(next))
			}
		}
		seen[len(plainText(l)) > 8000]++
		checkWhy(t, l, api.OK)
	}
	if seen[false] < 20 || seen[true] < 20 {
		t.Errorf("too few of one answer: %v", seen)
	}
	for range 10 {
		var l []api.Act
		for range 3995 + next(10) {
			l = append(l, anyAct(next))
		}
		checkWhy(t, l, plainWhy(l))
		checkPlain(t, plainWords(l), 0)
	}
}

// Words of acts, behind others and ahead of others, of which some are changed for words of anywhere.
func TestManyParses(t *testing.T) {
	next := row(10)
	seen := map[api.Errno]int{}
	words := scanned(t, whole()+" prog { } ; 0 8 999999999 . = x")
	for _, w := range []api.Word{name("tick"), mark(";"), name("fire"), num(3)} {
		words = append(words, broken(w)...)
	}
	for range 20000 {
		l := plainWords(anyList(next, 12))
		for range next(3) * min(len(l), 1) {
			at := next(len(l))
			switch w := words[next(len(words))]; next(3) {
			case 0:
				l[at] = w
			case 1:
				l = slices.Insert(l, at, w)
			case 2:
				l = slices.Delete(l, at, at+1)
			}
			if len(l) == 0 {
				break
			}
		}
		for _, at := range []int{-1, 0, next(len(l) + 1), next(len(l) + 1), len(l), len(l) + 1} {
			seen[checkPlain(t, l, at)]++
		}
		if t.Failed() {
			t.FailNow()
		}
	}
	if seen[api.OK] < 10000 || seen[api.ErrForm] < 10000 {
		t.Errorf("how often which answer came: %v", seen)
	}
}
