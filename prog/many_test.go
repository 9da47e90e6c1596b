package prog_test

import (
	"slices"
	"testing"

	"forelock/api"
)

// The tests of this file hold the calls against the plain answers, at many arguments.

// Each list of up to so many words, alone and behind the beginning of a program.
func TestEachShortList(t *testing.T) {
	vocabulary := []api.Word{name("prog"), name("forever"), mark("{"), mark("}"), mark(";"), name("exit"), name("lock"), name("timed"), num(0), num(7), num(8)}
	seen := map[api.Errno]int{}
	for _, ahead := range []string{"", "prog {", "prog forever { yield;"} {
		lists := [][]api.Word{scanned(t, ahead)}
		for range 4 {
			var longer [][]api.Word
			for _, l := range lists {
				for _, w := range vocabulary {
					longer = append(longer, append(slices.Clone(l), w))
				}
			}
			for _, l := range longer {
				seen[checkPlain(t, l, 0)]++
			}
			lists = longer
		}
	}
	for _, err := range []api.Errno{api.OK, api.ErrForm, api.ErrArg, api.ErrNone} {
		if seen[err] < 100 {
			t.Errorf("%d came too seldom: %v", err, seen)
		}
	}
}

// anyOp is an op that may be.
func anyOp(next func(int) int) api.Op {
	a := asks()[next(11)]
	numbers := [2]int{}
	for i, span := range a.spans {
		numbers[i] = span[0] + next(span[1]-span[0]+1)
	}
	return api.Op{Kind: a.kind, A: numbers[0], B: numbers[1]}
}

func anyProg(next func(int) int, most int) api.Prog {
	p := api.Prog{Forever: next(2) == 1}
	for range 1 + next(most) {
		p.Ops = append(p.Ops, anyOp(next))
	}
	return p
}

// Programs that may be are printed, and that is parsed to themselves.
func TestManyPrograms(t *testing.T) {
	next := row(20261119)
	seen := map[bool]int{}
	var last api.Prog
	for range 5000 {
		p := anyProg(next, 14)
		for range next(2) {
			op := &p.Ops[next(len(p.Ops))]
			switch next(3) {
			case 0:
				op.Kind += next(5) - 2
			case 1:
				op.A += next(21) - 10
			case 2:
				op.B += next(5) - 2
			}
		}
		may := plainMay(p)
		seen[may]++
		if may {
			checkMay(t, p)
		} else {
			checkMayNot(t, p)
		}
		checkSame(t, p, last, plainSame(p, last))
		last = p
		if t.Failed() {
			t.FailNow()
		}
	}
	if seen[true] < 1000 || seen[false] < 1000 {
		t.Errorf("too few of one answer: %v", seen)
	}
}

// Words of programs, behind others and ahead of others, of which some are changed for words of anywhere.
func TestManyParses(t *testing.T) {
	next := row(10)
	seen := map[api.Errno]int{}
	words := scanned(t, whole()+" prog forever { } ; 0 8 17 65 . = x")
	for _, w := range []api.Word{name("prog"), mark("}"), mark(";"), name("exit"), num(3)} {
		words = append(words, broken(w)...)
	}
	for range 20000 {
		var l []api.Word
		starts := []int{-1, 0}
		for range 1 + next(3) {
			starts = append(starts, len(l))
			l = append(l, scanned(t, plainPrintAny(anyProg(next, 14)))...)
		}
		for range next(3) {
			at := next(len(l))
			switch w := words[next(len(words))]; next(3) {
			case 0:
				l[at] = w
			case 1:
				l = slices.Insert(l, at, w)
			case 2:
				l = slices.Delete(l, at, at+1)
			}
		}
		starts = append(starts, next(len(l)+1), len(l), len(l)+1)
		for _, at := range starts {
			seen[checkPlain(t, l, at)]++
		}
		if t.Failed() {
			t.FailNow()
		}
	}
	for _, err := range []api.Errno{api.OK, api.ErrForm, api.ErrArg, api.ErrLong, api.ErrNone} {
		if seen[err] < 50 {
			t.Errorf("%d came too seldom: %v", err, seen)
		}
	}
}

// plainPrintAny is the text of a program, now and then without its ops.
func plainPrintAny(p api.Prog) string {
	if len(p.Ops) == 14 {
		p.Ops = nil
	}
	return plainPrint(p)
}
