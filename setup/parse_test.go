package setup_test

import (
	"math"
	"slices"
	"strconv"
	"strings"
	"testing"

	"forelock/api"
	"forelock/setup"
)

func TestExample(t *testing.T) {
	want := api.Setup{
		Cores: 1, Grain: 2, Groups: []int{4}, Locks: []api.Lock{{Slice: 3, Crit: 5}},
		Progs: []api.Prog{{Ops: []api.Op{{Kind: api.OpExit}}}},
	}
	l := scanned(t, "cores 1; grain 2; group 4; lock slice 3 crit 5; prog { exit; }")
	checkParse(t, l, 0, want, 20, api.OK)
	checkMay(t, want)
}

// Each number goes to the field of its name.
func TestParseOfWhole(t *testing.T) {
	want := api.Setup{
		Cores: 2, Grain: 3, Groups: []int{4, 5},
		Locks: []api.Lock{{Slice: 6, Crit: 7}, {Shared: true, Slice: 8, Crit: 9, Read: 10, Write: 11}},
		Progs: []api.Prog{
			{Ops: []api.Op{
				{Kind: api.OpLock}, {Kind: api.OpCompute, A: 2}, {Kind: api.OpUnlock}, {Kind: api.OpSpawn, A: 1},
				{Kind: api.OpTimed, A: 1, B: 12}, {Kind: api.OpCompute, A: 9}, {Kind: api.OpUnlock, A: 1},
			}},
			{Forever: true, Ops: []api.Op{{Kind: api.OpRead, A: 1}, {Kind: api.OpCompute, A: 1}, {Kind: api.OpUnlock, A: 1}}},
		},
	}
	l := scanned(t, whole())
	checkParse(t, l, 0, want, len(l), api.OK)
	checkMay(t, want)
}

// ordinary are setups with as few and as many of each as there may be, and some between.
func ordinary() []string {
	l := []string{least(), whole(), full()}
	for _, cores := range []string{"1", "4"} {
		for _, groups := range []int{1, 2, 4} {
			for _, locks := range []int{0, 1, 8} {
				for _, lock := range []string{"lock slice 2 crit 3; ", "shared slice 4 crit 5 read 6 write 7; "} {
					for _, progs := range []int{1, 3, 8} {
						l = append(l, "cores "+cores+"; grain 5; "+strings.Repeat("group 9; ", groups)+strings.Repeat(lock, locks)+strings.Repeat("prog { yield; } ", progs))
					}
				}
			}
		}
	}
	return l
}

func TestParseOfOrdinary(t *testing.T) {
	for _, s := range ordinary() {
		l := scanned(t, s)
		want, place, err := plainParse(l, 0)
		if place != len(l) || err != api.OK {
			t.Fatalf("%q isn't ordinary: %d, %d", s, place, err)
		}
		checkParse(t, l, 0, want, len(l), api.OK)
		checkMay(t, want)
	}
}

// In the midst of other words, of whatever kinds, nothing but its own words counts; places are those of the whole list.
func TestParseInTheMidst(t *testing.T) {
	ahead := []string{"", "x", "cores", "cores 1;", "group 1; group 1;", "prog { exit; }", "1 2 3", "{", "}", ";", ". =", "shared slice 1 crit 1", least()}
	behind := []string{"", "x", "cores 1;", "grain 9", "group", "group 1;", "lock", "lock slice 1 crit 1;", "shared", "lock 0", "{", "}", ";", "7", ".", "=", "tick 0;", "spawn 0 0 1 0;", "forever", "programs", "exit;", "}}"}
	for _, s := range []string{least(), whole(), full()} {
		own := scanned(t, s)
		want := parsed(t, s)
		for _, a := range ahead {
			for _, b := range behind {
				at := len(scanned(t, a))
				checkParse(t, scanned(t, a+" "+s+" "+b), at, want, at+len(own), api.OK)
			}
		}
	}
}

func TestParseOfSeveral(t *testing.T) {
	first, second := scanned(t, least()), scanned(t, whole())
	l := scanned(t, least()+whole()+least())
	checkParse(t, l, 0, parsed(t, least()), len(first), api.OK)
	checkParse(t, l, len(first), parsed(t, whole()), len(first)+len(second), api.OK)
	checkParse(t, l, len(first)+len(second), parsed(t, least()), len(l), api.OK)
}

// numbered is a place for a number in a setup's words, the greatest that may stand there, and the words up to ahead of it.
type numbered struct {
	ahead, behind string
	most          int
}

func allNumbered() []numbered {
	locks, progs := head()+"lock slice 2 crit 2; ", "; prog { exit; }"
	return []numbered{
		{"cores ", "; grain 1; group 1; prog { exit; }", 4},
		{"cores 1; grain ", "; group 1; prog { exit; }", 8},
		{"cores 1; grain 1; group ", progs, 16},
		{"cores 1; grain 1; group 2; group ", progs, 16},
		{"cores 1; grain 1; group 1; group 1; group 1; group ", progs, 16},
		{head() + "lock slice ", " crit 1" + progs, 16},
		{head() + "lock slice 1 crit ", progs, 32},
		{locks + "lock slice ", " crit 1" + progs, 16},
		{locks + "lock slice 1 crit ", progs, 32},
		{locks + "shared slice ", " crit 1 read 1 write 1" + progs, 16},
		{locks + "shared slice 1 crit ", " read 1 write 1" + progs, 32},
		{locks + "shared slice 1 crit 1 read ", " write 1" + progs, 16},
		{locks + "shared slice 1 crit 1 read 1 write ", progs, 16},
	}
}

// Each number at each of its places: those that may be are taken, the others are told at themselves, whatever follows.
func TestParseOfNumbers(t *testing.T) {
	numbers := []int{math.MinInt, -1 << 32, -16, -1, 99, 999999999, 1 << 32, 1<<32 + 1, math.MaxInt}
	for n := range 40 {
		numbers = append(numbers, n)
	}
	for _, c := range allNumbered() {
		ahead := scanned(t, c.ahead)
		for _, n := range numbers {
			l := slices.Concat(ahead, []api.Word{num(n)}, scanned(t, c.behind))
			want, _, _ := plainParse(l, 0)
			if n >= 1 && n <= c.most {
				checkParse(t, l, 0, want, len(l), api.OK)
				continue
			}
			checkRefused(t, l, 0, len(ahead), api.ErrArg)
			checkRefused(t, l[:len(ahead)+1], 0, len(ahead), api.ErrArg)
			checkRefused(t, slices.Concat(l[:len(ahead)+1], scanned(t, "x")), 0, len(ahead), api.ErrArg)
		}
	}
}

// The numbers that the chapter names, and those beside them, as they stand in a text.
func TestParseOfNumbersInTexts(t *testing.T) {
	for _, c := range allNumbered() {
		ahead := len(scanned(t, c.ahead))
		for n, may := range map[int]bool{0: false, 1: true, c.most: true, c.most + 1: false} {
			l := scanned(t, c.ahead+strconv.Itoa(n)+c.behind)
			if _, place, err := setup.Parse(l, 0); may && (place != len(l) || err != api.OK) || !may && (place != ahead || err != api.ErrArg) {
				t.Errorf("Parse(%s): %d, %d", told(l), place, err)
			}
		}
	}
}

func TestParseOfHowManyGroups(t *testing.T) {
	for n := range 8 {
		l := scanned(t, "cores 1; grain 1; "+strings.Repeat("group 3; ", n)+"prog { exit; }")
		switch {
		case n == 0:
			checkRefused(t, l, 0, 6, api.ErrForm)
		case n <= 4:
			want := api.Setup{Cores: 1, Grain: 1, Groups: slices.Repeat([]int{3}, n), Progs: []api.Prog{{Ops: []api.Op{{Kind: api.OpExit}}}}}
			checkParse(t, l, 0, want, len(l), api.OK)
		default:
			checkRefused(t, l, 0, 6+3*4, api.ErrLong)
		}
	}
}

func TestParseOfHowManyLocks(t *testing.T) {
	for n := range 12 {
		for shared := range 1 << min(n, 9) {
			s := head()
			for i := range n {
				s += []string{"lock slice 1 crit 2; ", "shared slice 3 crit 4 read 5 write 6; "}[shared>>i&1]
			}
			ninth := len(scanned(t, s))
			if n > 8 {
				ninth = len(scanned(t, strings.Join(strings.SplitAfter(s, ";")[:3+8], "")))
			}
			l := scanned(t, s+"prog { exit; }")
			if n <= 8 {
				want, _, _ := plainParse(l, 0)
				checkParse(t, l, 0, want, len(l), api.OK)
				if len(want.Locks) != n {
					t.Fatalf("%d locks of %d", len(want.Locks), n)
				}
			} else {
				checkRefused(t, l, 0, ninth, api.ErrLong)
			}
		}
	}
}

func TestParseOfHowManyPrograms(t *testing.T) {
	for n := range 12 {
		l := scanned(t, head()+strings.Repeat("prog { exit; } ", n))
		switch {
		case n == 0:
			checkRefused(t, l, 0, 9, api.ErrForm)
		case n <= 8:
			want := api.Setup{Cores: 1, Grain: 1, Groups: []int{1}, Progs: slices.Repeat([]api.Prog{{Ops: []api.Op{{Kind: api.OpExit}}}}, n)}
			checkParse(t, l, 0, want, len(l), api.OK)
		default:
			checkRefused(t, l, 0, 9+5*8, api.ErrLong)
		}
	}
}

// One too many is told at its first word, whatever stands behind that; a word there that begins none is what it can't go on with, or behind the setup.
func TestParseOfOneTooMany(t *testing.T) {
	groups := "cores 1; grain 1; group 1; group 2; group 3; group 4; "
	locks := head() + strings.Repeat("lock slice 1 crit 1; shared slice 1 crit 1 read 1 write 1; ", 4)
	progs := head() + strings.Repeat("prog { exit; } ", 8)
	rests := []string{"", ";", "0", "17", "1;", "x", "group 1;", "lock", "slice 0", "slice 1 crit 1;", "slice 1 crit 1 read 1 write 1;", "{", "{ }", "{ exit; }", "forever", "}", "prog"}
	for _, rest := range rests {
		checkRefused(t, scanned(t, groups+"group "+rest), 0, 18, api.ErrLong)
		checkRefused(t, scanned(t, locks+"lock "+rest), 0, 9+4*6+4*10, api.ErrLong)
		checkRefused(t, scanned(t, locks+"shared "+rest), 0, 9+4*6+4*10, api.ErrLong)
		checkRefused(t, scanned(t, progs+"prog "+rest), 0, 9+8*5, api.ErrLong)
	}
	for _, s := range []string{"x", "cores 1;", "grain 1;", ";", "1", "{", "}", ".", "=", "groups 1;", "slice 1", "forever", "locks"} {
		checkRefused(t, scanned(t, groups+s), 0, 18, api.ErrForm)
		checkRefused(t, scanned(t, locks+s), 0, 9+4*6+4*10, api.ErrForm)
		checkParse(t, scanned(t, progs+s), 0, parsed(t, progs), 9+8*5, api.OK)
	}
	// The others have room of their own.
	checkRefused(t, scanned(t, locks+"group 1;"), 0, 9+4*6+4*10, api.ErrForm)
	for _, s := range []string{"group 1;", "lock slice 1 crit 1;", "shared"} {
		checkParse(t, scanned(t, progs+s), 0, parsed(t, progs), 9+8*5, api.OK)
	}
}

func TestParseOfWordsThatEnd(t *testing.T) {
	for _, s := range []string{least(), whole(), full(), head() + "lock slice 1 crit 1; prog forever { yield; }"} {
		l := scanned(t, s)
		ends := progEnds(l)
		for n := range l {
			if slices.Contains(ends, n) {
				continue
			}
			checkRefused(t, l[:n], 0, n, api.ErrForm)
			// From a later place on, and with more words behind the end of the slice.
			checkRefused(t, slices.Concat([]api.Word{num(7), mark("}")}, l[:n]), 2, n+2, api.ErrForm)
			checkRefused(t, slices.Clone(l)[:n:n], 0, n, api.ErrForm)
		}
	}
}

// progEnds are the places behind programs, where a setup may end.
func progEnds(l []api.Word) []int {
	var ends []int
	for i, w := range l {
		if w.Text == "}" {
			ends = append(ends, i+1)
		}
	}
	return ends
}

// Where a setup may end behind one of its programs, those ahead must fit among themselves.
func TestParseOfFewerPrograms(t *testing.T) {
	l := scanned(t, full())
	for i, end := range progEnds(l) {
		want := parsed(t, full())
		want.Progs = want.Progs[:i+1]
		checkParse(t, l[:end], 0, want, end, api.OK)
	}
	l = scanned(t, whole())
	// The first program spawns the second one.
	checkRefused(t, l[:progEnds(l)[0]], 0, slices.Index(l, api.Word{Kind: 1, Text: "prog", At: strings.Index(whole(), "prog")}), api.ErrNone)
}

func TestParseOfNoWords(t *testing.T) {
	for _, l := range [][]api.Word{nil, {}, make([]api.Word, 0, 10)} {
		for _, at := range []int{math.MinInt, -2, -1, 0, 1, 2, math.MaxInt} {
			checkRefused(t, l, at, 0, api.ErrForm)
		}
	}
}

func TestParseAt(t *testing.T) {
	l := scanned(t, whole())
	n := len(l)
	for _, at := range []int{math.MinInt, -1 << 32, -n, -2, -1, n + 1, n + 2, 2 * n, 1 << 32, math.MaxInt} {
		checkRefused(t, l, at, 0, api.ErrForm)
	}
	checkRefused(t, l, n, n, api.ErrForm)
	// Where no setup begins it is the first word that can't be one's.
	for at := 1; at < n; at++ {
		checkRefused(t, l, at, at, api.ErrForm)
	}
	// Behind what a slice has there may be more, but that is none of its words.
	checkRefused(t, l[:3], n, 0, api.ErrForm)
	checkRefused(t, l[:3], 3, 3, api.ErrForm)
}

func TestParseRefuses(t *testing.T) {
	for _, c := range []struct {
		s     string
		place int
		why   api.Errno
	}{
		{"", 0, api.ErrForm}, {"x", 0, api.ErrForm}, {"1", 0, api.ErrForm}, {";", 0, api.ErrForm}, {"core 1;", 0, api.ErrForm}, {"coress 1;", 0, api.ErrForm},
		{"grain 1; cores 1;", 0, api.ErrForm}, {"prog { exit; }", 0, api.ErrForm}, {"group 1;", 0, api.ErrForm},
		{"cores", 1, api.ErrForm}, {"cores;", 1, api.ErrForm}, {"cores x;", 1, api.ErrForm}, {"cores cores 1;", 1, api.ErrForm}, {"cores =", 1, api.ErrForm},
		{"cores 0;", 1, api.ErrArg}, {"cores 5;", 1, api.ErrArg}, {"cores 999999999", 1, api.ErrArg}, {"cores 0 x", 1, api.ErrArg},
		{"cores 1", 2, api.ErrForm}, {"cores 1 grain 1;", 2, api.ErrForm}, {"cores 1 1;", 2, api.ErrForm}, {"cores 1.", 2, api.ErrForm}, {"cores 1 5;", 2, api.ErrForm},
		{"cores 1;", 3, api.ErrForm}, {"cores 1; cores 1;", 3, api.ErrForm}, {"cores 1;; grain 1;", 3, api.ErrForm}, {"cores 1; group 1;", 3, api.ErrForm}, {"cores 1; 1", 3, api.ErrForm},
		{"cores 1; grain", 4, api.ErrForm}, {"cores 1; grain;", 4, api.ErrForm}, {"cores 1; grain 0;", 4, api.ErrArg}, {"cores 1; grain 9;", 4, api.ErrArg},
		{"cores 1; grain 1", 5, api.ErrForm}, {"cores 1; grain 1 1", 5, api.ErrForm}, {"cores 1; grain 1 group 1;", 5, api.ErrForm},
		{"cores 1; grain 1;", 6, api.ErrForm}, {"cores 1; grain 1; grain 1;", 6, api.ErrForm}, {"cores 1; grain 1; lock slice 1 crit 1;", 6, api.ErrForm},
		{"cores 1; grain 1; shared", 6, api.ErrForm}, {"cores 1; grain 1; prog { exit; }", 6, api.ErrForm}, {"cores 1; grain 1; x", 6, api.ErrForm}, {"cores 1; grain 1; 1", 6, api.ErrForm},
		{"cores 1; grain 1; group", 7, api.ErrForm}, {"cores 1; grain 1; group;", 7, api.ErrForm}, {"cores 1; grain 1; group x;", 7, api.ErrForm}, {"cores 1; grain 1; group group", 7, api.ErrForm},
		{"cores 1; grain 1; group 0;", 7, api.ErrArg}, {"cores 1; grain 1; group 17;", 7, api.ErrArg}, {"cores 1; grain 1; group 1", 8, api.ErrForm}, {"cores 1; grain 1; group 1 2;", 8, api.ErrForm},
		{head(), 9, api.ErrForm}, {head() + "x", 9, api.ErrForm}, {head() + "1", 9, api.ErrForm}, {head() + ";", 9, api.ErrForm}, {head() + "{ exit; }", 9, api.ErrForm}, {head() + "grain 1;", 9, api.ErrForm},
		{head() + "slice 1 crit 1;", 9, api.ErrForm}, {head() + "forever { exit; }", 9, api.ErrForm}, {head() + "locks slice 1", 9, api.ErrForm}, {head() + "read 1", 9, api.ErrForm},
		{head() + "group", 10, api.ErrForm}, {head() + "group 0", 10, api.ErrArg}, {head() + "group 1 prog", 11, api.ErrForm},
		// Locks that aren't Shared.
		{head() + "lock", 10, api.ErrForm}, {head() + "lock;", 10, api.ErrForm}, {head() + "lock 1", 10, api.ErrForm}, {head() + "lock crit 1", 10, api.ErrForm}, {head() + "lock lock", 10, api.ErrForm},
		{head() + "lock shared slice 1", 10, api.ErrForm}, {head() + "lock slice", 11, api.ErrForm}, {head() + "lock slice;", 11, api.ErrForm}, {head() + "lock slice crit", 11, api.ErrForm},
		{head() + "lock slice 0", 11, api.ErrArg}, {head() + "lock slice 17 x", 11, api.ErrArg}, {head() + "lock slice 1", 12, api.ErrForm}, {head() + "lock slice 1;", 12, api.ErrForm},
		{head() + "lock slice 1 1 1;", 12, api.ErrForm}, {head() + "lock slice 1 slice 1;", 12, api.ErrForm}, {head() + "lock slice 1 crit", 13, api.ErrForm}, {head() + "lock slice 1 crit;", 13, api.ErrForm},
		{head() + "lock slice 1 crit 0;", 13, api.ErrArg}, {head() + "lock slice 1 crit 33", 13, api.ErrArg}, {head() + "lock slice 1 crit 1", 14, api.ErrForm},
		{head() + "lock slice 1 crit 1 read 1 write 1;", 14, api.ErrForm}, {head() + "lock slice 1 crit 1 prog { exit; }", 14, api.ErrForm}, {head() + "lock slice 1 crit 1 1;", 14, api.ErrForm},
		{head() + "lock slice 1 crit 1;", 15, api.ErrForm}, {head() + "lock slice 1 crit 1; group 1;", 15, api.ErrForm}, {head() + "lock slice 1 crit 1; x", 15, api.ErrForm},
		// Those that are.
		{head() + "shared", 10, api.ErrForm}, {head() + "shared lock slice 1", 10, api.ErrForm}, {head() + "shared read 1", 10, api.ErrForm}, {head() + "shared crit 1", 10, api.ErrForm}, {head() + "shared shared", 10, api.ErrForm},
		{head() + "shared slice 0", 11, api.ErrArg}, {head() + "shared slice 17", 11, api.ErrArg}, {head() + "shared slice 1 read 1", 12, api.ErrForm}, {head() + "shared slice 1 crit 0", 13, api.ErrArg}, {head() + "shared slice 1 crit 33", 13, api.ErrArg},
		{head() + "shared slice 1 crit 1;", 14, api.ErrForm}, {head() + "shared slice 1 crit 1 write 1 read 1;", 14, api.ErrForm}, {head() + "shared slice 1 crit 1 read", 15, api.ErrForm}, {head() + "shared slice 1 crit 1 read;", 15, api.ErrForm},
		{head() + "shared slice 1 crit 1 read 0 write 0", 15, api.ErrArg}, {head() + "shared slice 1 crit 1 read 17", 15, api.ErrArg}, {head() + "shared slice 1 crit 1 read 1", 16, api.ErrForm}, {head() + "shared slice 1 crit 1 read 1;", 16, api.ErrForm},
		{head() + "shared slice 1 crit 1 read 1 read 1;", 16, api.ErrForm}, {head() + "shared slice 1 crit 1 read 1 write", 17, api.ErrForm}, {head() + "shared slice 1 crit 1 read 1 write;", 17, api.ErrForm},
		{head() + "shared slice 1 crit 1 read 1 write 0", 17, api.ErrArg}, {head() + "shared slice 1 crit 1 read 1 write 17;", 17, api.ErrArg}, {head() + "shared slice 1 crit 1 read 1 write 1", 18, api.ErrForm},
		{head() + "shared slice 1 crit 1 read 1 write 1 write 1;", 18, api.ErrForm}, {head() + "shared slice 1 crit 1 read 1 write 1;", 19, api.ErrForm}, {head() + "shared slice 1 crit 1 read 1 write 1; group 1;", 19, api.ErrForm},
	} {
		l := scanned(t, c.s)
		checkRefused(t, l, 0, c.place, c.why)
		// From a later place on it is the same, so much further.
		checkRefused(t, slices.Concat(scanned(t, "cores 1; grain"), l), 4, c.place+4, c.why)
	}
}

// What is met in a program's words is told as its layer tells it, whichever program it is, ahead of whatever doesn't fit.
func TestParseOfProgramsWords(t *testing.T) {
	for s, want := range map[string]struct {
		place int
		why   api.Errno
	}{
		"prog": {1, api.ErrForm}, "prog x": {1, api.ErrForm}, "prog prog": {1, api.ErrForm}, "prog ;": {1, api.ErrForm}, "prog forever": {2, api.ErrForm}, "prog forever exit;": {2, api.ErrForm},
		"prog {": {2, api.ErrForm}, "prog { }": {2, api.ErrNone}, "prog forever { }": {3, api.ErrNone}, "prog { x": {2, api.ErrForm}, "prog { exit": {3, api.ErrForm}, "prog { exit }": {3, api.ErrForm},
		"prog { exit;": {4, api.ErrForm}, "prog { compute 0;": {3, api.ErrArg}, "prog { compute 17;": {3, api.ErrArg}, "prog { lock 8;": {3, api.ErrArg}, "prog { timed 0 65;": {4, api.ErrArg},
		"prog { compute; }": {3, api.ErrForm}, "prog { exit; group 1;": {4, api.ErrForm}, "prog { exit; lock slice": {5, api.ErrForm}, "prog { " + strings.Repeat("exit; ", 13) + "}": {2 + 2*12, api.ErrLong},
	} {
		for n := range 8 {
			for _, other := range []string{"prog { exit; } ", "prog { lock 7; } ", "prog forever { spawn 7; } "} {
				ahead := head() + strings.Repeat(other, n)
				checkRefused(t, scanned(t, ahead+s), 0, len(scanned(t, ahead))+want.place, want.why)
			}
		}
	}
}
