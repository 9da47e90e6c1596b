package script_test

import (
	"math"
	"reflect"
	"slices"
	"testing"

	"forelock/api"
	"forelock/script"
)

// headed are scripts that may be, and such that may not, with few and with many acts.
func headed(t *testing.T) []api.Script {
	t.Helper()
	noOps := wholeScript()
	noOps.Setup.Progs[0].Ops = nil
	noOps.Setup.Progs[1].Ops = []api.Op{}
	l := []api.Script{
		wholeScript(), {}, {Setup: leastSetup()}, {Setup: leastSetup(), Acts: []api.Act{{Kind: api.ActFire}}}, {Acts: wrongActs()}, parsed(t, fullSetup()+"fire; tick 0;"), noOps,
		{Setup: api.Setup{Groups: []int{}, Locks: []api.Lock{}, Progs: []api.Prog{}}, Acts: []api.Act{}},
		{Setup: wholeScript().Setup, Acts: slices.Repeat([]api.Act{{Kind: api.ActFire}}, 4000)}, {Setup: leastSetup(), Acts: slices.Repeat(wrongActs(), 500)},
		{Setup: api.Setup{Cores: -3, Grain: math.MaxInt, Groups: make([]int, 100), Locks: make([]api.Lock, 50), Progs: make([]api.Prog, 70)}, Acts: make([]api.Act, 5)},
	}
	for _, s := range wrongSetups() {
		l = append(l, api.Script{Setup: s, Acts: wholeScript().Acts})
	}
	return l
}

// headCounts are numbers below, within and behind how many acts there are.
func headCounts(acts int) []int {
	l := []int{math.MinInt, math.MinInt + 1, -1 << 32, -4000, -acts, -2, -1, 1 << 31, 1 << 32, 1<<32 + 1, math.MaxInt - 1, math.MaxInt}
	for n := range 12 {
		l = append(l, n)
	}
	return append(l, acts/2, acts-1, acts, acts+1, acts+2, 2*acts, 3999, 4000, 4001)
}

func TestHead(t *testing.T) {
	for _, x := range headed(t) {
		for _, n := range headCounts(len(x.Acts)) {
			checkHead(t, x, n)
		}
	}
	x := wholeScript()
	for n := range len(x.Acts) + 1 {
		got := script.Head(x, n)
		if !slices.Equal(got.Acts, wholeScript().Acts[:n]) {
			t.Errorf("Head with %d: %v", n, got.Acts)
		}
		checkSame(t, got, x, n == len(x.Acts))
		checkMay(t, got)
	}
}

// The head of a head is that of the lesser number.
func TestHeadOfHead(t *testing.T) {
	x := wholeScript()
	for n := range 12 {
		for m := range 12 {
			checkSame(t, script.Head(script.Head(x, n), m), script.Head(x, min(n, m)), true)
		}
	}
}

// A script of which one act may not be may be up to ahead of that.
func TestHeadAheadOfAnActThatMayNotBe(t *testing.T) {
	for at := range wholeScript().Acts {
		x := wholeScript()
		x.Acts[at].A = -1
		for n := range len(x.Acts) + 1 {
			if n <= at {
				checkMay(t, script.Head(x, n))
			} else {
				checkMayNot(t, script.Head(x, n))
			}
		}
	}
}

// What Head answers is the caller's own: what is done to it changes nothing else, and nothing else changes it.
func TestHeadAnswersAnew(t *testing.T) {
	for _, x := range headed(t) {
		for _, n := range []int{-1, 0, 1, 3, len(x.Acts) - 1, len(x.Acts), len(x.Acts) + 1, math.MaxInt} {
			kept := clone(x)
			first, second := script.Head(x, n), script.Head(x, n)
			want := clone(second)
			spoil(&first)
			if !reflect.DeepEqual(x, kept) {
				t.Errorf("Head with %d of %s: what is done to it changes the script: %s", n, told(kept), told(x))
			}
			if !reflect.DeepEqual(second, want) {
				t.Errorf("Head with %d of %s: what is done to it changes another answer: %s", n, told(kept), told(second))
			}
			given := clone(x)
			got := script.Head(given, n)
			spoil(&given)
			if !reflect.DeepEqual(got, want) {
				t.Errorf("Head with %d of %s: what is done to the script changes it: %s", n, told(kept), told(got))
			}
		}
	}
}

// What is appended to a list of an answer comes to none of what was handed in, though there is room behind its end.
func TestHeadHasNoRoomOfOthers(t *testing.T) {
	x := wholeScript()
	x.Setup.Groups = append(make([]int, 0, 9), x.Setup.Groups...)
	x.Setup.Locks = append(make([]api.Lock, 0, 9), x.Setup.Locks...)
	x.Setup.Progs = append(make([]api.Prog, 0, 9), x.Setup.Progs...)
	for i := range x.Setup.Progs {
		x.Setup.Progs[i].Ops = append(make([]api.Op, 0, 20), x.Setup.Progs[i].Ops...)
	}
	for n := range len(x.Acts) + 1 {
		kept := clone(x)
		got := script.Head(x, n)
		// All the lists that were handed in, with the room behind them.
		groups, locks, progs, ops := x.Setup.Groups[:9], x.Setup.Locks[:9], x.Setup.Progs[:9], x.Setup.Progs[0].Ops[:20]
		_ = append(got.Setup.Groups, 99)
		_ = append(got.Setup.Locks, api.Lock{Slice: 99})
		_ = append(got.Setup.Progs, api.Prog{Forever: true})
		_ = append(got.Setup.Progs[0].Ops, api.Op{Kind: 99})
		_ = append(got.Acts, api.Act{Kind: 99})
		if groups[2] != 0 || locks[2] != (api.Lock{}) || progs[2].Forever || ops[7] != (api.Op{}) || !reflect.DeepEqual(x, kept) {
			t.Errorf("Head with %d has room of the script's", n)
		}
	}
}

// No two lists of an answer share memory.
func TestHeadOfListsThatShare(t *testing.T) {
	x := wholeScript()
	ops := x.Setup.Progs[0].Ops
	x.Setup.Progs = []api.Prog{{Ops: ops}, {Ops: ops}, {Ops: ops[:2]}, {Ops: ops[2:]}}
	got := checkHead(t, x, 5)
	got.Setup.Progs[0].Ops[0].A = 55
	got.Setup.Progs[3].Ops[0].A = 66
	_ = append(got.Setup.Progs[2].Ops, api.Op{Kind: 77})
	if got.Setup.Progs[1].Ops[0].A != 0 || got.Setup.Progs[0].Ops[2] != ops[2] || got.Setup.Progs[1].Ops[2] != ops[2] || got.Setup.Progs[2].Ops[0].A != 0 {
		t.Errorf("ops of one program are those of another one: %s", told(got))
	}
	if ops[0].A != 0 || ops[2] != (api.Op{Kind: api.OpUnlock}) {
		t.Errorf("the script was changed: %s", told(x))
	}
}
