package script_test

import (
	"math"
	"slices"
	"strconv"
	"strings"
	"testing"

	"forelock/api"
	"forelock/script"
)

// A script has a setup, but needn't have acts.
func TestMayOfNone(t *testing.T) {
	checkMayNot(t, api.Script{})
	checkMayNot(t, api.Script{Acts: []api.Act{{Kind: api.ActFire}}})
	checkMayNot(t, api.Script{Acts: make([]api.Act, 4001)})
	for _, l := range [][]api.Act{nil, {}, make([]api.Act, 0, 5), make([]api.Act, 3)[:0]} {
		checkMay(t, api.Script{Setup: leastSetup(), Acts: l})
		checkMay(t, api.Script{Setup: wholeScript().Setup, Acts: l})
	}
	if text, err := script.Print(api.Script{Setup: leastSetup()}); text != "cores 1; grain 1; group 1; prog { exit; }" || err != api.OK {
		t.Errorf("Print: %q, %d", text, err)
	}
	checkMay(t, parsed(t, fullSetup()))
}

// Each number of a script, for other ones that it mostly may not be: one is enough.
func TestMayOfNumbers(t *testing.T) {
	seen := map[bool]int{}
	x := wholeScript()
	for i := range numbersIn(&x) {
		numbers := append(outside(), 999999999)
		for n := range 70 {
			numbers = append(numbers, n)
		}
		for _, n := range numbers {
			changed := wholeScript()
			*numbersIn(&changed)[i] = n
			seen[plainMay(changed)]++
			if plainMay(changed) {
				checkMay(t, changed)
			} else {
				checkMayNot(t, changed)
			}
			if slices.Contains(outside(), n) && script.May(changed) {
				t.Errorf("May of a script with %d as its number %d", n, i)
			}
		}
	}
	if seen[true] < 400 || seen[false] < 4000 {
		t.Errorf("too few of one answer: %v", seen)
	}
}

func TestMayOfBools(t *testing.T) {
	x := wholeScript()
	for i := range boolsIn(&x) {
		changed := wholeScript()
		b := boolsIn(&changed)[i]
		*b = !*b
		if plainMay(changed) {
			checkMay(t, changed)
		} else {
			checkMayNot(t, changed)
		}
	}
}

// wrongSetups are setups that may not be.
func wrongSetups() []api.Setup {
	var l []api.Setup
	for _, change := range []func(s *api.Setup){
		func(s *api.Setup) { *s = api.Setup{} },
		func(s *api.Setup) { s.Cores = 0 },
		func(s *api.Setup) { s.Cores = 5 },
		func(s *api.Setup) { s.Grain = math.MinInt },
		func(s *api.Setup) { s.Groups = nil },
		func(s *api.Setup) { s.Groups = make([]int, 5) },
		func(s *api.Setup) { s.Groups[1] = 17 },
		func(s *api.Setup) { s.Locks[0].Read = 1 },
		func(s *api.Setup) { s.Locks[1].Crit = 8 },
		func(s *api.Setup) { s.Locks = s.Locks[:1] },
		func(s *api.Setup) { s.Locks = append(s.Locks, slices.Repeat(s.Locks[:1], 7)...) },
		func(s *api.Setup) { s.Progs = nil },
		func(s *api.Setup) { s.Progs = s.Progs[:1] },
		func(s *api.Setup) { s.Progs = append(s.Progs, slices.Repeat(s.Progs[:1], 7)...) },
		func(s *api.Setup) { s.Progs[1].Ops = nil },
		func(s *api.Setup) { s.Progs[0].Ops[0].Kind = 99 },
		func(s *api.Setup) { s.Progs[1].Ops[1].Kind = api.OpUnlock },
	} {
		s := wholeScript().Setup
		change(&s)
		l = append(l, s)
	}
	return l
}

// wrongActs are some acts of which each may not be.
func wrongActs() []api.Act {
	return []api.Act{
		{}, {Kind: -1}, {Kind: 9}, {Kind: math.MaxInt}, {Kind: api.ActTick, A: -1}, {Kind: api.ActTick, A: 1000000000}, {Kind: api.ActTick, B: 1}, {Kind: api.ActFire, A: 1},
		{Kind: api.ActSpawn, D: -1}, {Kind: api.ActSpawn, C: math.MaxInt}, {Kind: api.ActGroup, C: 1}, {Kind: api.ActMove, B: math.MinInt}, {Kind: api.ActBalance, D: 1},
	}
}

// A setup that may not be is enough, and an act that may not be, wherever it stands; and both.
func TestOfPartsThatMayNotBe(t *testing.T) {
	for _, s := range wrongSetups() {
		checkMayNot(t, api.Script{Setup: s})
		checkMayNot(t, api.Script{Setup: s, Acts: wholeScript().Acts})
		for _, a := range wrongActs() {
			checkMayNot(t, api.Script{Setup: s, Acts: []api.Act{a}})
		}
		checkMayNot(t, api.Script{Setup: s, Acts: slices.Repeat([]api.Act{{Kind: api.ActFire}}, 4001)})
		checkMayNot(t, api.Script{Setup: s, Acts: slices.Repeat([]api.Act{{Kind: api.ActFire}}, 2000)})
	}
	for _, a := range wrongActs() {
		for at := range wholeScript().Acts {
			x := wholeScript()
			x.Acts[at] = a
			checkMayNot(t, x)
		}
		checkMayNot(t, api.Script{Setup: leastSetup(), Acts: []api.Act{a}})
	}
}

// Of more than 4000 acts none of a script may be, so ErrArg is told of them, not ErrLong; of 4000 the text is too long.
func TestOfHowManyActs(t *testing.T) {
	for _, a := range []api.Act{{Kind: api.ActFire}, {Kind: api.ActTick, A: 3}, {Kind: api.ActSpawn, A: 999999999, B: 1, C: 2, D: 3}} {
		for _, setup := range []api.Setup{leastSetup(), wholeScript().Setup} {
			for _, n := range []int{1, 100, 1333, 3999, 4000} {
				checkMay(t, api.Script{Setup: setup, Acts: slices.Repeat([]api.Act{a}, n)})
			}
			for _, n := range []int{4001, 4002, 8000, 100000} {
				checkMayNot(t, api.Script{Setup: setup, Acts: slices.Repeat([]api.Act{a}, n)})
			}
			for _, wrong := range wrongActs() {
				for _, at := range []int{0, 1, 2000, 3998, 3999} {
					x := api.Script{Setup: setup, Acts: slices.Repeat([]api.Act{a}, 4000)}
					x.Acts[at] = wrong
					checkMayNot(t, x)
					x.Acts = append(x.Acts, a)
					checkMayNot(t, x)
				}
			}
		}
	}
	x := api.Script{Setup: leastSetup(), Acts: slices.Repeat([]api.Act{{Kind: api.ActFire}}, 4000)}
	if text, err := script.Print(x); text != "" || err != api.ErrLong || !script.May(x) {
		t.Errorf("Print of 4000 acts: %d bytes, %d", len(text), err)
	}
	x.Acts = append(x.Acts, api.Act{Kind: api.ActFire})
	if text, err := script.Print(x); text != "" || err != api.ErrArg || script.May(x) {
		t.Errorf("Print of 4001 acts: %d bytes, %d", len(text), err)
	}
}

// Texts that are just as long as may be, and a little longer, or shorter, of short setups and long ones.
func TestPrintOfLongTexts(t *testing.T) {
	seen := map[int]int{}
	for _, setup := range []api.Setup{leastSetup(), wholeScript().Setup, parsed(t, fullSetup()).Setup} {
		for _, a := range []api.Act{{Kind: api.ActFire}, {Kind: api.ActRound, A: 200}, {Kind: api.ActSpawn, A: 999999999, B: 999999999, C: 999999999, D: 999999999}} {
			x := api.Script{Setup: setup}
			for len(plainText(x)) < 7940 {
				x.Acts = append(x.Acts, a)
			}
			for len(plainText(x)) < 8020 {
				for n := 1; n < 1000000000; n *= 10 {
					longer := clone(x)
					longer.Acts = slices.Insert(longer.Acts, len(longer.Acts)/2, api.Act{Kind: api.ActKill, A: n})
					seen[len(plainText(longer))]++
					checkMay(t, longer)
				}
				x.Acts = append(x.Acts, api.Act{Kind: api.ActFire})
			}
		}
	}
	for n := 7980; n <= 8020; n++ {
		if seen[n] == 0 {
			t.Errorf("no text of %d bytes", n)
		}
	}
}

func TestPrintOfTheLongest(t *testing.T) {
	longest := least() + strings.Repeat("fire; ", 1325) + "balance;"
	x := parsed(t, longest)
	if text, err := script.Print(x); len(text) != 8000 || text != longest || err != api.OK {
		t.Errorf("Print of 8000 bytes: %d bytes, %d", len(text), err)
	}
	for _, change := range []func(x *api.Script){
		func(x *api.Script) { x.Acts[1325] = api.Act{Kind: api.ActRound, A: 10} },
		func(x *api.Script) { x.Setup.Groups[0] = 10 },
		func(x *api.Script) { x.Acts[0] = api.Act{Kind: api.ActTick} },
		func(x *api.Script) { x.Setup.Progs[0].Ops[0].Kind = api.OpYield },
		func(x *api.Script) { x.Setup.Groups = []int{1, 1} },
	} {
		longer := clone(x)
		change(&longer)
		if text, err := script.Print(longer); text != "" || err != api.ErrLong || !script.May(longer) {
			t.Errorf("Print of %d bytes: %d bytes, %d", len(plainText(longer)), len(text), err)
		}
		longer.Acts = longer.Acts[:1325]
		if text, err := script.Print(longer); text != plainText(longer) || err != api.OK {
			t.Errorf("Print of %d bytes: %d bytes, %d", len(plainText(longer)), len(text), err)
		}
		// What may not be is told ahead of what is too long.
		longer.Acts = append(longer.Acts, api.Act{Kind: api.ActSpawn, A: 5}, api.Act{Kind: api.ActFire, A: 1})
		checkMayNot(t, longer)
	}
}

// What is parsed may be printed as a text of other gaps, but of the same script.
func TestPrintOfAnyGaps(t *testing.T) {
	for s, want := range map[string]string{
		"cores 1;grain 1;group 1;prog{exit;}spawn 0 0 1 0;tick 0;": "cores 1; grain 1; group 1; prog { exit; } spawn 0 0 1 0; tick 0;",
		"cores 1 ; grain\t1\n;group 1; # x\nprog forever{yield;}#": "cores 1; grain 1; group 1; prog forever { yield; }",
		" \n" + strings.ReplaceAll(whole(), " ", " # ,\n ") + "\n": whole(),
	} {
		x := parsed(t, s)
		if text, err := script.Print(x); text != want || err != api.OK {
			t.Errorf("Print of what %q is parsed to: %q, %d", s, text, err)
		}
		checkMay(t, x)
	}
}

// changes are what makes another script of one that has all lists, each by one part.
func changes() map[string]func(x *api.Script) {
	l := map[string]func(x *api.Script){
		"no groups":     func(x *api.Script) { x.Setup.Groups = nil },
		"a group less":  func(x *api.Script) { x.Setup.Groups = x.Setup.Groups[1:] },
		"a group more":  func(x *api.Script) { x.Setup.Groups = append(x.Setup.Groups, 0) },
		"groups turned": func(x *api.Script) { slices.Reverse(x.Setup.Groups) },
		"no locks":      func(x *api.Script) { x.Setup.Locks = nil },
		"a lock less":   func(x *api.Script) { x.Setup.Locks = x.Setup.Locks[:1] },
		"a lock more":   func(x *api.Script) { x.Setup.Locks = append(x.Setup.Locks, api.Lock{}) },
		"locks turned":  func(x *api.Script) { slices.Reverse(x.Setup.Locks) },
		"no programs":   func(x *api.Script) { x.Setup.Progs = nil },
		"a program less": func(x *api.Script) {
			x.Setup.Progs = x.Setup.Progs[:1]
		},
		"a program more":  func(x *api.Script) { x.Setup.Progs = append(x.Setup.Progs, api.Prog{}) },
		"programs turned": func(x *api.Script) { slices.Reverse(x.Setup.Progs) },
		"no acts":         func(x *api.Script) { x.Acts = nil },
		"an act less":     func(x *api.Script) { x.Acts = x.Acts[:len(x.Acts)-1] },
		"an act behind":   func(x *api.Script) { x.Acts = append(x.Acts, api.Act{}) },
		"an act ahead":    func(x *api.Script) { x.Acts = slices.Insert(x.Acts, 0, x.Acts[0]) },
		"acts turned":     func(x *api.Script) { slices.Reverse(x.Acts) },
	}
	for i := range wholeScript().Setup.Progs {
		l["no ops of "+strconv.Itoa(i)] = func(x *api.Script) { x.Setup.Progs[i].Ops = nil }
		l["an op less of "+strconv.Itoa(i)] = func(x *api.Script) { x.Setup.Progs[i].Ops = x.Setup.Progs[i].Ops[1:] }
		l["an op more of "+strconv.Itoa(i)] = func(x *api.Script) { x.Setup.Progs[i].Ops = append(x.Setup.Progs[i].Ops, api.Op{}) }
		l["ops turned of "+strconv.Itoa(i)] = func(x *api.Script) { slices.Reverse(x.Setup.Progs[i].Ops) }
	}
	whole := wholeScript()
	for i := range numbersIn(&whole) {
		for _, by := range []int{1, -1, 1 << 8, 1 << 16, 1 << 32, math.MinInt} {
			l["number "+strconv.Itoa(i)+" by "+strconv.Itoa(by)] = func(x *api.Script) { *numbersIn(x)[i] += by }
		}
	}
	for i := range boolsIn(&whole) {
		l["bool "+strconv.Itoa(i)] = func(x *api.Script) { *boolsIn(x)[i] = !*boolsIn(x)[i] }
	}
	return l
}

// Scripts that differ in one part are not the same, whether they may be or not.
func TestSameOfOnePart(t *testing.T) {
	checkSame(t, wholeScript(), wholeScript(), true)
	for what, change := range changes() {
		x := wholeScript()
		change(&x)
		checkSame(t, x, wholeScript(), false)
		checkSame(t, x, clone(x), true)
		checkSame(t, x, x, true)
		if t.Failed() {
			t.Fatal(what)
		}
	}
}

func TestSameOfEachTwo(t *testing.T) {
	all := []api.Script{{}, {Setup: leastSetup()}, {Acts: wholeScript().Acts}, {Setup: wholeScript().Setup}, parsed(t, fullSetup()+"fire;"), {Acts: make([]api.Act, 4001)}, {Acts: make([]api.Act, 5000)}}
	for _, change := range changes() {
		x := wholeScript()
		change(&x)
		all = append(all, x)
	}
	for i, a := range all {
		for _, b := range all[:i+1] {
			if got, want := script.Same(a, b), plainSame(a, b); got != want {
				t.Fatalf("Same of %s and %s: %t", told(a), told(b), got)
			}
		}
	}
}

// Whether a list is nil or empty, and how much room it has, counts nothing.
func TestSameOfEmptyLists(t *testing.T) {
	empty := []api.Script{
		{}, {Acts: []api.Act{}}, {Acts: make([]api.Act, 0, 9)}, {Setup: api.Setup{Groups: []int{}, Locks: []api.Lock{}, Progs: []api.Prog{}}},
		{Setup: api.Setup{Groups: make([]int, 0, 3), Progs: make([]api.Prog, 2)[:0]}, Acts: make([]api.Act, 7)[:0]},
	}
	for _, a := range empty {
		for _, b := range empty {
			checkSame(t, a, b, true)
		}
		checkSame(t, a, api.Script{Acts: make([]api.Act, 1)}, false)
		checkSame(t, a, api.Script{Setup: api.Setup{Groups: make([]int, 1)}}, false)
		checkSame(t, a, api.Script{Setup: api.Setup{Locks: make([]api.Lock, 1)}}, false)
		checkSame(t, a, api.Script{Setup: api.Setup{Progs: make([]api.Prog, 1)}}, false)
	}
	a, b := wholeScript(), wholeScript()
	a.Setup.Progs[0].Ops, b.Setup.Progs[0].Ops = nil, []api.Op{}
	checkSame(t, a, b, true)
	a.Acts = append(make([]api.Act, 0, 100), a.Acts...)
	a.Setup.Groups = append(make([]int, 0, 100), a.Setup.Groups...)
	checkSame(t, a, b, true)
}
