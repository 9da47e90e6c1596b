package setup_test

import (
	"slices"
	"testing"

	"forelock/api"
)

// The tests of this file hold the calls against the plain answers, at many arguments.

// Each list of up to so many words, behind the beginnings of a setup.
func TestEachShortList(t *testing.T) {
	vocabulary := []api.Word{
		name("cores"), name("grain"), name("group"), name("lock"), name("shared"), name("slice"), name("crit"), name("read"), name("prog"), name("exit"),
		mark("{"), mark("}"), mark(";"), num(0), num(3), num(33),
	}
	seen := map[api.Errno]int{}
	for _, ahead := range []string{"", "cores 1", "cores 1; grain 1;", head(), head() + "lock slice 1", head() + "shared slice 1 crit 1", head() + "shared slice 1 crit 1 read 1", least(), head() + "prog { lock 0;"} {
		lists := [][]api.Word{scanned(t, ahead)}
		for range 3 {
			var longer [][]api.Word
			for _, l := range lists {
				for _, w := range vocabulary {
					longer = append(longer, append(slices.Clone(l), w))
				}
			}
			for _, l := range longer {
				seen[checkPlain(t, l, 0)]++
			}
			lists = longer
		}
	}
	for _, err := range []api.Errno{api.OK, api.ErrForm, api.ErrArg} {
		if seen[err] < 100 {
			t.Errorf("%d came too seldom: %v", err, seen)
		}
	}
}

// anyOf is one of 1 up to most.
func anyOf(next func(int) int, most int) int {
	return 1 + next(most)
}

// anySetup is a setup that may be but for its programs, of which some don't fit.
func anySetup(next func(int) int) api.Setup {
	s := api.Setup{Cores: anyOf(next, 4), Grain: anyOf(next, 8)}
	for range anyOf(next, 4) {
		s.Groups = append(s.Groups, anyOf(next, 16))
	}
	for range next(9) {
		k := api.Lock{Slice: anyOf(next, 16), Crit: anyOf(next, 32)}
		if next(2) == 0 {
			k.Shared, k.Read, k.Write = true, anyOf(next, 16), anyOf(next, 16)
		}
		s.Locks = append(s.Locks, k)
	}
	for range anyOf(next, 8) {
		s.Progs = append(s.Progs, anyProg(next, s))
	}
	return s
}

// anyProg is a program that may be, and mostly fits the locks.
func anyProg(next func(int) int, s api.Setup) api.Prog {
	p := api.Prog{Forever: next(2) == 0}
	for range 1 + next(3) {
		if len(s.Locks) == 0 || next(3) == 0 {
			p.Ops = append(p.Ops, api.Op{Kind: api.OpSleep, A: anyOf(next, 64)})
			continue
		}
		lock := next(len(s.Locks))
		takes := api.Op{Kind: []int{api.OpLock, api.OpRead, api.OpTry, api.OpTimed}[next(4)], A: lock}
		if takes.Kind == api.OpRead && !s.Locks[lock].Shared && next(8) != 0 {
			takes.Kind = api.OpLock
		}
		if takes.Kind == api.OpTimed {
			takes.B = anyOf(next, 64)
		}
		ticks := anyOf(next, min(16, s.Locks[lock].Crit+next(8)/7))
		p.Ops = append(p.Ops, takes, api.Op{Kind: api.OpCompute, A: ticks}, api.Op{Kind: api.OpUnlock, A: lock})
	}
	if next(8) == 0 {
		p.Ops = append(p.Ops, api.Op{Kind: api.OpSpawn, A: next(3)})
	}
	return p
}

// spoiled is s with one number, or how many there are of something, changed by a little.
func spoiled(next func(int) int, s api.Setup) api.Setup {
	x := clone(s)
	by := []int{-20, -9, -1, 1, 2, 9, 20}[next(7)]
	switch next(9) {
	case 0:
		x.Cores += by
	case 1:
		x.Grain += by
	case 2:
		x.Groups[next(len(x.Groups))] += by
	case 3:
		x.Groups = append(x.Groups, x.Groups[:next(len(x.Groups)+1)]...)
	case 4:
		x.Locks = append(x.Locks, x.Locks...)
	case 5:
		x.Progs = append(x.Progs, x.Progs...)
	case 6:
		p := &x.Progs[next(len(x.Progs))]
		p.Ops[next(len(p.Ops))].A += by
	default:
		if len(x.Locks) > 0 {
			k := &x.Locks[next(len(x.Locks))]
			*[]*int{&k.Slice, &k.Crit, &k.Read, &k.Write}[next(4)] += by
		}
	}
	return x
}

// Setups that may be are printed, and that is parsed to themselves.
func TestManySetups(t *testing.T) {
	next := row(20261120)
	seen := map[bool]int{}
	var last api.Setup
	for range 6000 {
		s := anySetup(next)
		if next(3) == 0 {
			s = spoiled(next, s)
		}
		may := plainMay(s)
		seen[may]++
		if may {
			checkMay(t, s)
		} else {
			checkMayNot(t, s)
		}
		checkSame(t, s, clone(s), true)
		checkSame(t, s, last, plainSame(s, last))
		x := spoiled(next, s)
		checkSame(t, s, x, plainSame(s, x))
		last = s
		if t.Failed() {
			t.FailNow()
		}
	}
	if seen[true] < 1000 || seen[false] < 1000 {
		t.Errorf("too few of one answer: %v", seen)
	}
}

// Words of setups, behind others and ahead of others, of which some are changed for words of anywhere.
func TestManyParses(t *testing.T) {
	next := row(12)
	seen := map[api.Errno]int{}
	words := scanned(t, whole()+" 0 5 9 17 33 . = x")
	for _, w := range []api.Word{name("cores"), name("group"), name("lock"), name("shared"), name("prog"), mark(";"), num(3)} {
		words = append(words, broken(w)...)
	}
	for range 10000 {
		var l []api.Word
		starts := []int{-1, 0}
		for range 1 + next(3) {
			starts = append(starts, len(l))
			s := anySetup(next)
			if next(3) == 0 {
				s = spoiled(next, s)
			}
			l = append(l, wordsOf(t, s)...)
		}
		for range next(3) {
			at := next(len(l))
			switch w := words[next(len(words))]; next(3) {
			case 0:
				l[at] = w
			case 1:
				l = slices.Insert(l, at, w)
			case 2:
				l = slices.Delete(l, at, at+1)
			}
		}
		starts = append(starts, next(len(l)+1), len(l), len(l)+1)
		for _, at := range starts {
			seen[checkPlain(t, l, at)]++
		}
		if t.Failed() {
			t.FailNow()
		}
	}
	for _, err := range []api.Errno{api.OK, api.ErrForm, api.ErrArg, api.ErrLong, api.ErrNone, api.ErrCrit} {
		if seen[err] < 50 {
			t.Errorf("%d came too seldom: %v", err, seen)
		}
	}
}

// wordsOf is the words of a setup, also of one that may not be.
func wordsOf(t *testing.T, s api.Setup) []api.Word {
	t.Helper()
	for _, k := range s.Locks {
		if k.Slice < 0 || k.Crit < 0 || k.Read < 0 || k.Write < 0 {
			return scanned(t, least())
		}
	}
	if s.Cores < 0 || s.Grain < 0 || slices.Min(s.Groups) < 0 {
		return scanned(t, least())
	}
	return scanned(t, plainPrint(s))
}
