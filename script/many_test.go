package script_test

import (
	"slices"
	"strconv"
	"testing"

	"forelock/api"
	"forelock/script"
)

// The tests of this file hold the calls against the plain answers, at many arguments.

// anySetup is a setup that may be.
func anySetup(next func(int) int) api.Setup {
	s := api.Setup{Cores: 1 + next(4), Grain: 1 + next(8)}
	for range 1 + next(4) {
		s.Groups = append(s.Groups, 1+next(16))
	}
	for range next(9) {
		k := api.Lock{Slice: 1 + next(16), Crit: 1 + next(32)}
		if next(2) == 0 {
			k.Shared, k.Read, k.Write = true, 1+next(16), 1+next(16)
		}
		s.Locks = append(s.Locks, k)
	}
	progs := 1 + next(8)
	for range progs {
		s.Progs = append(s.Progs, anyProg(next, s.Locks, progs))
	}
	return s
}

// anyProg is a program that fits these locks, and so many programs.
func anyProg(next func(int) int, locks []api.Lock, progs int) api.Prog {
	p := api.Prog{Forever: next(2) == 0, Ops: []api.Op{{Kind: api.OpYield}}}
	for range next(3) {
		switch {
		case len(locks) == 0 || next(3) == 0:
			others := []api.Op{{Kind: api.OpSleep, A: 1 + next(64)}, {Kind: api.OpSpawn, A: next(progs)}, {Kind: api.OpWeight, A: 1 + next(16)}, {Kind: api.OpExit}}
			p.Ops = append(p.Ops, others[next(4)])
		default:
			lock := next(len(locks))
			takes := []api.Op{{Kind: api.OpLock, A: lock}, {Kind: api.OpTry, A: lock}, {Kind: api.OpTimed, A: lock, B: 1 + next(64)}, {Kind: api.OpRead, A: lock}}
			most := 3
			if locks[lock].Shared {
				most = 4
			}
			p.Ops = append(p.Ops, takes[next(most)], api.Op{Kind: api.OpCompute, A: 1 + next(min(16, locks[lock].Crit))}, api.Op{Kind: api.OpUnlock, A: lock})
		}
	}
	return p
}

// anyAct is an act that may be.
func anyAct(next func(int) int) api.Act {
	a := api.Act{Kind: 1 + next(8)}
	for i, n := range []*int{&a.A, &a.B, &a.C, &a.D} {
		if i < shapes()[a.Kind-1].numbers {
			*n = next([]int{2, 17, 1000, 1000000000}[next(4)])
		}
	}
	return a
}

func anyScript(next func(int) int, most int) api.Script {
	x := api.Script{Setup: anySetup(next)}
	for range next(most) {
		x.Acts = append(x.Acts, anyAct(next))
	}
	return x
}

// spoiled is x with one part changed by a little.
func spoiled(next func(int) int, x api.Script) api.Script {
	x = clone(x)
	switch next(8) {
	case 0:
		x.Acts = append(x.Acts, x.Acts[:next(len(x.Acts)+1)]...)
	case 1:
		x.Acts = append(x.Acts, wrongActs()[next(len(wrongActs()))])
	case 2:
		x.Setup = wrongSetups()[next(len(wrongSetups()))]
	case 3:
		if bools := boolsIn(&x); len(bools) > 0 {
			b := bools[next(len(bools))]
			*b = !*b
		}
	default:
		numbers := numbersIn(&x)
		*numbers[next(len(numbers))] += []int{-1000000000, -20, -1, 1, 2, 20, 1000000000}[next(7)]
	}
	return x
}

// Scripts that may be are printed, and that is parsed to themselves; now and then one part is changed.
func TestManyScripts(t *testing.T) {
	next := row(20261120)
	seen := map[bool]int{}
	var last api.Script
	for range 4000 {
		x := anyScript(next, 30)
		if !plainMay(x) {
			t.Fatalf("a script that may not be: %s", told(x))
		}
		if next(3) == 0 {
			x = spoiled(next, x)
		}
		may := plainMay(x)
		seen[may]++
		if may {
			checkMay(t, x)
		} else {
			checkMayNot(t, x)
		}
		head := checkHead(t, x, next(40)-5)
		checkSame(t, x, head, len(head.Acts) == len(x.Acts))
		checkSame(t, x, clone(x), true)
		checkSame(t, x, last, plainSame(x, last))
		changed := spoiled(next, x)
		checkSame(t, x, changed, plainSame(x, changed))
		last = x
		if t.Failed() {
			t.FailNow()
		}
	}
	if seen[true] < 2000 || seen[false] < 500 {
		t.Errorf("too few of one answer: %v", seen)
	}
}

// Long scripts, whose texts are about as long as may be, or much longer.
func TestManyLongScripts(t *testing.T) {
	next := row(14)
	seen := map[bool]int{}
	for range 100 {
		x := api.Script{Setup: anySetup(next)}
		size := 7900 + next(200)
		for len(plainText(x)) < size {
			for range 1 + max(0, size-len(plainText(x)))/60 {
				x.Acts = append(x.Acts, anyAct(next))
			}
		}
		seen[len(plainText(x)) > 8000]++
		checkMay(t, x)
	}
	if seen[false] < 20 || seen[true] < 20 {
		t.Errorf("too few of one answer: %v", seen)
	}
}

// wordText is a word as it stands in a script.
func wordText(w api.Word) string {
	if w.Kind == api.WordNum {
		return strconv.Itoa(w.N)
	}
	return w.Text
}

// laid is words as a text, with gaps of any kind between, ahead and behind; and where in it each word begins, and the text ends.
func laid(next func(int) int, l []api.Word) (string, []int) {
	gaps := []string{" ", " ", "\n", "\t", "  \n", "#\n", "# cores 1; ,\n", " # } \xff\n\t", "\n#;;\n#\n"}
	ends := append(gaps, "", "", "# and so on", " #")
	var s string
	var places []int
	for i, w := range l {
		if i > 0 || next(2) == 0 {
			s += gaps[next(len(gaps))]
		}
		places = append(places, len(s))
		s += wordText(w)
	}
	s += ends[next(len(ends))]
	return s, append(places, len(s))
}

// changed is words of which some are changed for other ones, left out, or stand several times.
func changed(next func(int) int, l, others []api.Word) []api.Word {
	w := others[next(len(others))]
	if len(l) == 0 {
		return []api.Word{w}
	}
	at := next(len(l))
	switch next(7) {
	case 0:
		return slices.Insert(l, at, w)
	case 1:
		return slices.Delete(l, at, at+1)
	case 2:
		return slices.Insert(l, at, l[at])
	case 3:
		return l[:at+1]
	case 4:
		// What goes up to a ; or a } from there on, several times.
		end := at + 1
		for end < len(l) && (l[end-1].Kind != api.WordMark || l[end-1].Text == "{") {
			end++
		}
		return slices.Concat(l[:at], slices.Repeat(l[at:end], 1+next(9)), l[end:])
	case 5:
		// The next number there is.
		for at < len(l)-1 && l[at].Kind != api.WordNum {
			at++
		}
		w = api.Word{Kind: api.WordNum, N: next(35)}
	}
	l[at] = w
	return l
}

// Words of scripts, of which some are changed, with any gaps.
func TestManyParses(t *testing.T) {
	next := row(41)
	seen := map[api.Errno]int{}
	others := scanned(t, whole()+" 0 5 9 17 33 65 999999999 . = x sleep yield weight stop exit")
	for range 15000 {
		text, _ := script.Print(anyScript(next, 12))
		l := scanned(t, text)
		for range next(3) {
			l = changed(next, l, others)
		}
		s, places := laid(next, l)
		x, place, why := plainWords(l)
		seen[why]++
		switch {
		case len(s) > 8000:
			checkRefused(t, s, 8000, api.ErrLong)
		case why == api.OK:
			checkParse(t, s, x, 0, api.OK)
		default:
			checkRefused(t, s, places[place], why)
		}
		if t.Failed() {
			t.FailNow()
		}
	}
	for _, why := range []api.Errno{api.OK, api.ErrForm, api.ErrArg, api.ErrLong, api.ErrNone, api.ErrCrit} {
		if seen[why] < 20 {
			t.Errorf("%d came too seldom: %v", why, seen)
		}
	}
}

// Any bytes: what is said is a script, or is not and tells a place of the text.
func TestManyTexts(t *testing.T) {
	next := row(8000)
	pieces := []string{"cores 1; grain 1; group 1; ", "prog { exit; } ", "prog { ", "} ", "tick 0; ", "fire; ", "group ", "1 ", "; ", "x ", "#", "\n", " ", "\t", ",", "\x00", "\xff", "0", "01 ", "lock slice 1 crit 1; ", "."}
	for range 20000 {
		s := ""
		for range next(12) {
			s += pieces[next(len(pieces))]
		}
		x, at, err := script.Parse(s)
		if err == api.OK && (at != 0 || !script.May(x)) || err != api.OK && (at < 0 || at > len(s) || !plainSame(x, api.Script{})) {
			t.Fatalf("Parse(%q): %s, %d, %d", s, told(x), at, err)
		}
		if err == api.OK {
			checkMay(t, x)
		}
	}
}
