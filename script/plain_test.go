package script_test

import (
	"math"
	"reflect"
	"slices"
	"strconv"
	"strings"
	"testing"

	"forelock/acts"
	"forelock/api"
	"forelock/script"
	"forelock/setup"
	"forelock/token"
)

// This file has what the other tests hold the calls against: the chapter's words, told once more, over those of the layers below.

// whole is a text with two of each list of a setup, and an act of each kind.
func whole() string {
	return wholeSetup() + "spawn 0 1 2 3; tick 3; fire; balance; kill 9; group 0 16; move 5 1; round 200; tick 999999999;"
}

func wholeSetup() string {
	return "cores 2; grain 3; group 4; group 5; lock slice 6 crit 7; shared slice 8 crit 9 read 10 write 11; " +
		"prog { lock 0; compute 2; unlock 0; spawn 1; timed 1 12; compute 9; unlock 1; } prog forever { read 1; compute 1; unlock 1; } "
}

// wholeScript is the script of that text.
func wholeScript() api.Script {
	return api.Script{
		Setup: api.Setup{
			Cores: 2, Grain: 3, Groups: []int{4, 5},
			Locks: []api.Lock{{Slice: 6, Crit: 7}, {Shared: true, Slice: 8, Crit: 9, Read: 10, Write: 11}},
			Progs: []api.Prog{
				{Ops: []api.Op{{Kind: 2}, {Kind: 1, A: 2}, {Kind: 6}, {Kind: 9, A: 1}, {Kind: 5, A: 1, B: 12}, {Kind: 1, A: 9}, {Kind: 6, A: 1}}},
				{Forever: true, Ops: []api.Op{{Kind: 3, A: 1}, {Kind: 1, A: 1}, {Kind: 6, A: 1}}},
			},
		},
		Acts: []api.Act{
			{Kind: 4, B: 1, C: 2, D: 3}, {Kind: 1, A: 3}, {Kind: 2}, {Kind: 3}, {Kind: 5, A: 9},
			{Kind: 6, B: 16}, {Kind: 7, A: 5, B: 1}, {Kind: 8, A: 200}, {Kind: 1, A: 999999999},
		},
	}
}

// least is the text of a setup that has as little of all as there may be, with a blank behind.
func least() string {
	return "cores 1; grain 1; group 1; prog { exit; } "
}

func leastSetup() api.Setup {
	return api.Setup{Cores: 1, Grain: 1, Groups: []int{1}, Progs: []api.Prog{{Ops: []api.Op{{Kind: api.OpExit}}}}}
}

// fullSetup is the text of a setup that has as much of all as there may be, with a blank behind.
func fullSetup() string {
	return "cores 4; grain 8; " + strings.Repeat("group 16; ", 4) + strings.Repeat("shared slice 16 crit 32 read 16 write 16; ", 8) +
		strings.Repeat("prog forever { "+strings.Repeat("compute 16; ", 12)+"} ", 8)
}

// scanned is the words of a text that is one, with their places in it.
func scanned(t *testing.T, s string) []api.Word {
	t.Helper()
	l, at, err := token.Scan(s)
	if err != api.OK {
		t.Fatalf("Scan(%q): %d, %d", s, at, err)
	}
	return l
}

// parsed is the script of a text that must be one.
func parsed(t *testing.T, s string) api.Script {
	t.Helper()
	x, at, err := script.Parse(s)
	if at != 0 || err != api.OK {
		t.Fatalf("Parse(%q): %d, %d", s, at, err)
	}
	return x
}

// cut is a text, or the lists of a script, as a fault tells them: of long ones the beginning and the end are enough.
func cut(s string) string {
	if len(s) <= 600 {
		return strconv.Quote(s)
	}
	return strconv.Itoa(len(s)) + " bytes: " + strconv.Quote(s[:300]) + " .. " + strconv.Quote(s[len(s)-200:])
}

func told(x api.Script) string {
	s := "cores " + strconv.Itoa(x.Setup.Cores) + ", grain " + strconv.Itoa(x.Setup.Grain) + ", groups"
	for _, n := range x.Setup.Groups {
		s += " " + strconv.Itoa(n)
	}
	for _, k := range x.Setup.Locks {
		s += ", lock " + strconv.FormatBool(k.Shared) + toldNumbers(k.Slice, k.Crit, k.Read, k.Write)
	}
	for _, p := range x.Setup.Progs {
		s += ", prog " + strconv.FormatBool(p.Forever)
		for _, op := range p.Ops {
			s += toldNumbers(op.Kind, op.A, op.B)
		}
	}
	s += ", " + strconv.Itoa(len(x.Acts)) + " acts"
	for _, a := range x.Acts[max(0, len(x.Acts)-20):] {
		s += toldNumbers(a.Kind, a.A, a.B, a.C, a.D)
	}
	return cut(s)
}

func toldNumbers(numbers ...int) string {
	s := " {"
	for _, n := range numbers {
		s += " " + strconv.Itoa(n)
	}
	return s + " }"
}

// shapes are the first words of acts, by their kinds less one, and how many numbers they have.
func shapes() []struct {
	name    string
	numbers int
} {
	return []struct {
		name    string
		numbers int
	}{{"tick", 1}, {"fire", 0}, {"balance", 0}, {"spawn", 4}, {"kill", 1}, {"group", 2}, {"move", 2}, {"round", 1}}
}

// plainText is the text of a script that may be, however long it is.
func plainText(x api.Script) string {
	text, _ := setup.Print(x.Setup)
	texts := []string{text}
	for _, a := range x.Acts {
		k := shapes()[a.Kind-1]
		text := k.name
		for _, n := range []int{a.A, a.B, a.C, a.D}[:k.numbers] {
			text += " " + strconv.Itoa(n)
		}
		texts = append(texts, text+";")
	}
	return strings.Join(texts, " ")
}

// plainMay is what May is to answer.
func plainMay(x api.Script) bool {
	for _, a := range x.Acts {
		if !acts.May([]api.Act{a}) {
			return false
		}
	}
	return setup.May(x.Setup) && len(x.Acts) <= 4000
}

// plainWords is what words are the words of: a script; or which one of them is that where they are none (how many there are, if none is), and why.
func plainWords(l []api.Word) (api.Script, int, api.Errno) {
	s, n, err := setup.Parse(l, 0)
	if err != api.OK {
		return api.Script{}, n, err
	}
	all, n, err := acts.Parse(l, n)
	if err != api.OK {
		return api.Script{}, n, err
	}
	return api.Script{Setup: s, Acts: all}, 0, api.OK
}

// bare is a script of memory of its own whose empty lists are all nil: whether one is nil or empty counts nothing.
func bare(x api.Script) api.Script {
	s := api.Setup{Cores: x.Setup.Cores, Grain: x.Setup.Grain}
	s.Groups = append(s.Groups, x.Setup.Groups...)
	s.Locks = append(s.Locks, x.Setup.Locks...)
	for _, p := range x.Setup.Progs {
		var ops []api.Op
		s.Progs = append(s.Progs, api.Prog{Forever: p.Forever, Ops: append(ops, p.Ops...)})
	}
	var all []api.Act
	return api.Script{Setup: s, Acts: append(all, x.Acts...)}
}

// plainSame is what Same is to answer.
func plainSame(a, b api.Script) bool {
	return reflect.DeepEqual(bare(a), bare(b))
}

// clone is a script of memory of its own, with lists nil or empty as they were.
func clone(x api.Script) api.Script {
	x.Setup.Groups, x.Setup.Locks, x.Setup.Progs = slices.Clone(x.Setup.Groups), slices.Clone(x.Setup.Locks), slices.Clone(x.Setup.Progs)
	for i := range x.Setup.Progs {
		x.Setup.Progs[i].Ops = slices.Clone(x.Setup.Progs[i].Ops)
	}
	x.Acts = slices.Clone(x.Acts)
	return x
}

// numbersIn are all numbers of x, where they are kept.
func numbersIn(x *api.Script) []*int {
	l := []*int{&x.Setup.Cores, &x.Setup.Grain}
	for i := range x.Setup.Groups {
		l = append(l, &x.Setup.Groups[i])
	}
	for i := range x.Setup.Locks {
		k := &x.Setup.Locks[i]
		l = append(l, &k.Slice, &k.Crit, &k.Read, &k.Write)
	}
	for _, p := range x.Setup.Progs {
		for i := range p.Ops {
			l = append(l, &p.Ops[i].Kind, &p.Ops[i].A, &p.Ops[i].B)
		}
	}
	for i := range x.Acts {
		a := &x.Acts[i]
		l = append(l, &a.Kind, &a.A, &a.B, &a.C, &a.D)
	}
	return l
}

// boolsIn are all bools of x, where they are kept.
func boolsIn(x *api.Script) []*bool {
	var l []*bool
	for i := range x.Setup.Locks {
		l = append(l, &x.Setup.Locks[i].Shared)
	}
	for i := range x.Setup.Progs {
		l = append(l, &x.Setup.Progs[i].Forever)
	}
	return l
}

// spoil changes all that x has, and what there is room for behind its lists.
func spoil(x *api.Script) {
	x.Setup.Groups = append(x.Setup.Groups, -77)
	x.Setup.Locks = append(x.Setup.Locks, api.Lock{Slice: -77})
	for i := range x.Setup.Progs {
		x.Setup.Progs[i].Ops = append(x.Setup.Progs[i].Ops, api.Op{Kind: -77})
	}
	x.Acts = append(x.Acts, api.Act{Kind: -77})
	for _, n := range numbersIn(x) {
		*n = -99
	}
	for _, b := range boolsIn(x) {
		*b = !*b
	}
	for i := range x.Setup.Progs {
		x.Setup.Progs[i].Ops = nil
	}
	x.Setup.Progs = append(x.Setup.Progs, api.Prog{})
}

// checkParse holds Parse against these answers.
func checkParse(t *testing.T, s string, want api.Script, place int, why api.Errno) {
	t.Helper()
	x, at, err := script.Parse(s)
	if !plainSame(x, want) || at != place || err != why {
		t.Errorf("Parse(%s): %s, %d, %d; want %s, %d, %d", cut(s), told(x), at, err, told(want), place, why)
	}
}

func checkRefused(t *testing.T, s string, place int, why api.Errno) {
	t.Helper()
	checkParse(t, s, api.Script{}, place, why)
}

// checkMay holds May and Print of a script that may be against its text, and what that is parsed to against itself.
func checkMay(t *testing.T, x api.Script) {
	t.Helper()
	kept := clone(x)
	if !script.May(x) {
		t.Errorf("May of %s: false", told(x))
	}
	want, why := plainText(x), api.OK
	if len(want) > 8000 {
		want, why = "", api.ErrLong
	}
	if text, err := script.Print(x); text != want || err != why {
		t.Errorf("Print of %s: %s, %d; want %s, %d", told(x), cut(text), err, cut(want), why)
	}
	if why == api.OK {
		checkParse(t, want, x, 0, api.OK)
	}
	if !reflect.DeepEqual(x, kept) {
		t.Errorf("the script was changed: %s; it was %s", told(x), told(kept))
	}
}

func checkMayNot(t *testing.T, x api.Script) {
	t.Helper()
	kept := clone(x)
	if script.May(x) {
		t.Errorf("May of %s: true", told(x))
	}
	if text, err := script.Print(x); text != "" || err != api.ErrArg {
		t.Errorf("Print of %s: %s, %d; want nothing, %d", told(x), cut(text), err, api.ErrArg)
	}
	if !reflect.DeepEqual(x, kept) {
		t.Errorf("the script was changed: %s; it was %s", told(x), told(kept))
	}
}

// checkSame holds Same of both, in either order, against that answer; neither may change by that.
func checkSame(t *testing.T, a, b api.Script, want bool) {
	t.Helper()
	keptA, keptB := clone(a), clone(b)
	if got := script.Same(a, b); got != want {
		t.Errorf("Same of %s and %s: %t", told(a), told(b), got)
	}
	if got := script.Same(b, a); got != want {
		t.Errorf("Same of %s and %s: %t", told(b), told(a), got)
	}
	if !reflect.DeepEqual(a, keptA) || !reflect.DeepEqual(b, keptB) {
		t.Error("Same changed what it was given")
	}
}

// checkHead holds Head against the first acts, and answers it; the script may not change by that.
func checkHead(t *testing.T, x api.Script, n int) api.Script {
	t.Helper()
	kept := clone(x)
	want := clone(x)
	want.Acts = want.Acts[:min(max(n, 0), len(x.Acts))]
	got := script.Head(x, n)
	if !plainSame(got, want) {
		t.Errorf("Head of %s with %d: %s", told(x), n, told(got))
	}
	if !reflect.DeepEqual(x, kept) {
		t.Errorf("Head with %d changed the script: %s; it was %s", n, told(x), told(kept))
	}
	return got
}

// outside are numbers that no script has.
func outside() []int {
	return []int{-1, -2, 1000000000, 1 << 31, 1 << 32, 1<<32 + 1, -1 << 32, math.MaxInt, math.MinInt, math.MinInt + 1}
}

// row answers numbers below n, the same ones each time.
func row(seed uint64) func(n int) int {
	state := seed
	return func(n int) int {
		state = state*6364136223846793005 + 1442695040888963407
		return int((state ^ state>>29) >> 33 % uint64(n))
	}
}
