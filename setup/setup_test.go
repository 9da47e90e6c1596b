package setup_test

import (
	"math"
	"slices"
	"strings"
	"testing"

	"forelock/api"
	"forelock/setup"
)

func TestMayOfNone(t *testing.T) {
	checkMayNot(t, api.Setup{})
	checkMayNot(t, api.Setup{Groups: []int{}, Locks: []api.Lock{}, Progs: []api.Prog{}})
	checkMayNot(t, api.Setup{Cores: 1, Grain: 1})
	checkMayNot(t, api.Setup{Cores: 1, Grain: 1, Groups: []int{1}})
	checkMayNot(t, api.Setup{Cores: 1, Grain: 1, Progs: []api.Prog{{Ops: []api.Op{{Kind: api.OpExit}}}}})
}

// Empty lists may be nil or not.
func TestMayOfNoLocks(t *testing.T) {
	s := parsed(t, least())
	for _, locks := range [][]api.Lock{nil, {}, make([]api.Lock, 0, 9)} {
		s.Locks = locks
		checkMay(t, s)
	}
	for _, groups := range [][]int{nil, {}, make([]int, 0, 9)} {
		x := clone(s)
		x.Groups = groups
		checkMayNot(t, x)
	}
	for _, progs := range [][]api.Prog{nil, {}, make([]api.Prog, 0, 9)} {
		x := clone(s)
		x.Progs = progs
		checkMayNot(t, x)
	}
}

// spanned is a number of a setup, and what it may be.
type spanned struct {
	what        string
	least, most int
	set         func(s *api.Setup, n int)
}

// allSpanned are all numbers of the setup whole; the locks' Crit from what its programs ask for on.
func allSpanned() []spanned {
	return []spanned{
		{"Cores", 1, 4, func(s *api.Setup, n int) { s.Cores = n }},
		{"Grain", 1, 8, func(s *api.Setup, n int) { s.Grain = n }},
		{"the first group", 1, 16, func(s *api.Setup, n int) { s.Groups[0] = n }},
		{"the last group", 1, 16, func(s *api.Setup, n int) { s.Groups[1] = n }},
		{"Slice of the first lock", 1, 16, func(s *api.Setup, n int) { s.Locks[0].Slice = n }},
		{"Crit of the first lock", 2, 32, func(s *api.Setup, n int) { s.Locks[0].Crit = n }},
		{"Read of the first lock", 0, 0, func(s *api.Setup, n int) { s.Locks[0].Read = n }},
		{"Write of the first lock", 0, 0, func(s *api.Setup, n int) { s.Locks[0].Write = n }},
		{"Slice of the last lock", 1, 16, func(s *api.Setup, n int) { s.Locks[1].Slice = n }},
		{"Crit of the last lock", 9, 32, func(s *api.Setup, n int) { s.Locks[1].Crit = n }},
		{"Read of the last lock", 1, 16, func(s *api.Setup, n int) { s.Locks[1].Read = n }},
		{"Write of the last lock", 1, 16, func(s *api.Setup, n int) { s.Locks[1].Write = n }},
	}
}

// farNumbers are all near those that may be, and some far away.
func farNumbers() []int {
	l := []int{math.MinInt, math.MinInt + 1, -1 << 32, -1<<32 + 1, 999999999, 1 << 31, 1 << 32, 1<<32 + 1, 1<<8 + 2, math.MaxInt}
	for n := -40; n <= 40; n++ {
		l = append(l, n)
	}
	return l
}

// One number at a time, at all that it may be and beside.
func TestMayOfNumbers(t *testing.T) {
	for _, c := range allSpanned() {
		for _, n := range farNumbers() {
			s := parsed(t, whole())
			c.set(&s, n)
			if n >= c.least && n <= c.most {
				checkMay(t, s)
			} else {
				checkMayNot(t, s)
			}
			if t.Failed() {
				t.Fatalf("%s: %d", c.what, n)
			}
		}
	}
}

// Where no section asks for more, Crit may be 1.
func TestMayOfCritAlone(t *testing.T) {
	for n := -1; n <= 34; n++ {
		for _, lock := range []api.Lock{{Slice: 1, Crit: n}, {Shared: true, Slice: 1, Crit: n, Read: 1, Write: 1}} {
			for locks := 1; locks <= 8; locks++ {
				s := parsed(t, least())
				s.Locks = slices.Repeat([]api.Lock{{Slice: 5, Crit: 5}}, locks)
				s.Locks[locks-1] = lock
				if n >= 1 && n <= 32 {
					checkMay(t, s)
				} else {
					checkMayNot(t, s)
				}
			}
		}
	}
}

// Each two numbers, each at its least and its greatest, and beside these.
func TestMayOfTwoNumbers(t *testing.T) {
	all := allSpanned()
	for i, c := range all {
		for _, d := range all[i+1:] {
			for _, n := range []int{c.least - 1, c.least, c.most, c.most + 1} {
				for _, m := range []int{d.least - 1, d.least, d.most, d.most + 1} {
					s := parsed(t, whole())
					c.set(&s, n)
					d.set(&s, m)
					if n >= c.least && n <= c.most && m >= d.least && m <= d.most {
						checkMay(t, s)
					} else {
						checkMayNot(t, s)
					}
					if t.Failed() {
						t.Fatalf("%s: %d, %s: %d", c.what, n, d.what, m)
					}
				}
			}
		}
	}
}

// Weights that may be of a lock that is Shared are too many for one that isn't, and the other way round.
func TestMayOfShared(t *testing.T) {
	for read := -1; read <= 17; read++ {
		for write := -1; write <= 17; write++ {
			for _, shared := range []bool{false, true} {
				s := parsed(t, least())
				s.Locks = []api.Lock{{Shared: shared, Slice: 1, Crit: 1, Read: read, Write: write}}
				may := read == 0 && write == 0
				if shared {
					may = read >= 1 && read <= 16 && write >= 1 && write <= 16
				}
				if may {
					checkMay(t, s)
				} else {
					checkMayNot(t, s)
				}
			}
		}
	}
}

func TestMayOfHowMany(t *testing.T) {
	for n := range 20 {
		groups, locks, progs := parsed(t, full()), parsed(t, full()), parsed(t, full())
		groups.Groups = slices.Repeat([]int{2}, n)
		locks.Locks = slices.Repeat([]api.Lock{{Slice: 1, Crit: 1}}, n)
		progs.Progs = slices.Repeat([]api.Prog{{Ops: []api.Op{{Kind: api.OpYield}}}}, n)
		for _, c := range []struct {
			s   api.Setup
			may bool
		}{{groups, n >= 1 && n <= 4}, {locks, n <= 8}, {progs, n >= 1 && n <= 8}} {
			if c.may {
				checkMay(t, c.s)
			} else {
				checkMayNot(t, c.s)
			}
		}
	}
	s := parsed(t, least())
	checkMayNot(t, api.Setup{Cores: 1, Grain: 1, Groups: make([]int, 100000), Locks: make([]api.Lock, 100000), Progs: make([]api.Prog, 100000)})
	checkMayNot(t, api.Setup{Cores: 1, Grain: 1, Groups: slices.Repeat([]int{1}, 100000), Progs: s.Progs})
}

// One that may not be is enough, wherever it stands.
func TestMayOfOneAmongMany(t *testing.T) {
	for n := 1; n <= 8; n++ {
		for at := range n {
			if n <= 4 {
				for _, weight := range []int{math.MinInt, -1, 0, 17, math.MaxInt} {
					s := parsed(t, full())
					s.Groups = s.Groups[:n]
					s.Groups[at] = weight
					checkMayNot(t, s)
				}
			}
			for _, lock := range []api.Lock{
				{}, {Shared: true}, {Slice: 17, Crit: 1}, {Slice: 1, Crit: 33}, {Slice: 1}, {Crit: 1}, {Slice: -1, Crit: 1}, {Slice: 1, Crit: -1}, {Slice: 1, Crit: 1, Read: 1}, {Slice: 1, Crit: 1, Write: 1},
				{Slice: 1, Crit: 1, Read: 1, Write: 1}, {Slice: 1, Crit: 1, Write: -1}, {Shared: true, Slice: 1, Crit: 1}, {Shared: true, Slice: 1, Crit: 1, Read: 1}, {Shared: true, Slice: 1, Crit: 1, Write: 1},
			} {
				s := parsed(t, full())
				s.Locks = s.Locks[:n]
				s.Locks[at] = lock
				checkMayNot(t, s)
			}
			for _, p := range []api.Prog{{}, {Forever: true}, {Ops: []api.Op{{}}}, {Ops: make([]api.Op, 13)}, {Ops: []api.Op{{Kind: api.OpCompute, A: 17}}}, {Ops: slices.Repeat([]api.Op{{Kind: api.OpYield}}, 13)}} {
				s := parsed(t, full())
				s.Progs = s.Progs[:n]
				s.Progs[at] = p
				checkMayNot(t, s)
			}
		}
	}
}

// Programs that don't fit, each alone and among others; of the locks that there are, and of as many programs as there are.
func TestMayOfMisfits(t *testing.T) {
	for text := range misfits() {
		for at := range 3 {
			s := parsed(t, threeLocks()+strings.Repeat(fitting, 3))
			s.Progs[at] = program(t, text)
			checkMayNot(t, s)
		}
	}
	checkMay(t, parsed(t, threeLocks()+strings.Repeat(fitting, 3)))
	fewer := parsed(t, threeLocks()+strings.Repeat(fitting, 3))
	fewer.Progs = fewer.Progs[:2]
	checkMayNot(t, fewer)
	fewer = parsed(t, threeLocks()+strings.Repeat(fitting, 3))
	fewer.Locks = fewer.Locks[:2]
	checkMayNot(t, fewer)
}

// The longest text that a setup may have is far from what is too long for one: no setup that may be is told ErrLong.
func TestPrintOfTheLongest(t *testing.T) {
	s := parsed(t, full())
	text, err := setup.Print(s)
	if text != full() || err != api.OK {
		t.Errorf("Print: %q, %d; want %q", text, err, full())
	}
	if len(text) > api.MaxScript/2 {
		t.Errorf("the longest text has %d bytes", len(text))
	}
	checkMay(t, s)
}

func TestWordsHaveNoPlaces(t *testing.T) {
	s := parsed(t, "cores 1; grain 2; group 4; lock slice 3 crit 5; shared slice 6 crit 7 read 8 write 9; prog { exit; }")
	want := []api.Word{
		name("cores"), num(1), mark(";"), name("grain"), num(2), mark(";"), name("group"), num(4), mark(";"),
		name("lock"), name("slice"), num(3), name("crit"), num(5), mark(";"),
		name("shared"), name("slice"), num(6), name("crit"), num(7), name("read"), num(8), name("write"), num(9), mark(";"),
		name("prog"), mark("{"), name("exit"), mark(";"), mark("}"),
	}
	l, err := setup.Words(s)
	if !slices.Equal(l, want) || err != api.OK {
		t.Errorf("Words: %v, %d; want %v", l, err, want)
	}
}

func TestWordsAnswersAnew(t *testing.T) {
	s := parsed(t, whole())
	first, _ := setup.Words(s)
	second, _ := setup.Words(s)
	kept := slices.Clone(second)
	for i := range first {
		first[i] = api.Word{}
	}
	if !slices.Equal(second, kept) {
		t.Errorf("one answer hangs on another: %v; it was %v", second, kept)
	}
	checkMay(t, s)
}

// Setups that differ in one field alone; whether they may be counts nothing.
func TestSameOfOneField(t *testing.T) {
	for _, by := range []int{-1, 1, 5, 1 << 32, math.MinInt} {
		for n, change := range []func(s *api.Setup){
			func(s *api.Setup) { s.Cores += by },
			func(s *api.Setup) { s.Grain += by },
			func(s *api.Setup) { s.Groups[0] += by },
			func(s *api.Setup) { s.Groups[1] += by },
			func(s *api.Setup) { s.Locks[0].Shared = !s.Locks[0].Shared },
			func(s *api.Setup) { s.Locks[0].Slice += by },
			func(s *api.Setup) { s.Locks[0].Crit += by },
			func(s *api.Setup) { s.Locks[0].Read += by },
			func(s *api.Setup) { s.Locks[0].Write += by },
			func(s *api.Setup) { s.Locks[1].Shared = !s.Locks[1].Shared },
			func(s *api.Setup) { s.Locks[1].Slice += by },
			func(s *api.Setup) { s.Locks[1].Crit += by },
			func(s *api.Setup) { s.Locks[1].Read += by },
			func(s *api.Setup) { s.Locks[1].Write += by },
			func(s *api.Setup) { s.Progs[0].Forever = !s.Progs[0].Forever },
			func(s *api.Setup) { s.Progs[0].Ops[0].Kind += by },
			func(s *api.Setup) { s.Progs[0].Ops[1].A += by },
			func(s *api.Setup) { s.Progs[0].Ops[6].B += by },
			func(s *api.Setup) { s.Progs[1].Forever = !s.Progs[1].Forever },
			func(s *api.Setup) { s.Progs[1].Ops[2].Kind += by },
			func(s *api.Setup) { s.Progs[1].Ops[1].A += by },
			func(s *api.Setup) { s.Progs[1].Ops[0].B += by },
		} {
			a, b := parsed(t, whole()), parsed(t, whole())
			checkSame(t, a, b, true)
			change(&b)
			checkSame(t, a, b, false)
			change(&a)
			checkSame(t, a, b, true)
			if t.Failed() {
				t.Fatalf("the change %d, by %d", n, by)
			}
		}
	}
}

// Setups that differ in how many there are of something, at the end or at the beginning, or in the order.
func TestSameOfHowMany(t *testing.T) {
	for n, change := range []func(s *api.Setup){
		func(s *api.Setup) { s.Groups = s.Groups[:1] },
		func(s *api.Setup) { s.Groups = s.Groups[1:] },
		func(s *api.Setup) { s.Groups = nil },
		func(s *api.Setup) { s.Groups = append(s.Groups, 0) },
		func(s *api.Setup) { slices.Reverse(s.Groups) },
		func(s *api.Setup) { s.Locks = s.Locks[:1] },
		func(s *api.Setup) { s.Locks = s.Locks[1:] },
		func(s *api.Setup) { s.Locks = nil },
		func(s *api.Setup) { s.Locks = append(s.Locks, api.Lock{}) },
		func(s *api.Setup) { slices.Reverse(s.Locks) },
		func(s *api.Setup) { s.Progs = s.Progs[:1] },
		func(s *api.Setup) { s.Progs = s.Progs[1:] },
		func(s *api.Setup) { s.Progs = nil },
		func(s *api.Setup) { s.Progs = append(s.Progs, api.Prog{}) },
		func(s *api.Setup) { slices.Reverse(s.Progs) },
		func(s *api.Setup) { s.Progs[0].Ops = s.Progs[0].Ops[:6] },
		func(s *api.Setup) { s.Progs[0].Ops = s.Progs[0].Ops[1:] },
		func(s *api.Setup) { s.Progs[1].Ops = nil },
		func(s *api.Setup) { s.Progs[1].Ops = append(s.Progs[1].Ops, api.Op{}) },
		func(s *api.Setup) { slices.Reverse(s.Progs[1].Ops) },
	} {
		a, b := parsed(t, whole()), parsed(t, whole())
		change(&b)
		checkSame(t, a, b, false)
		checkSame(t, api.Setup{}, b, false)
		change(&a)
		checkSame(t, a, b, true)
		if t.Failed() {
			t.Fatalf("the change %d", n)
		}
	}
}

// Whether an empty list is nil counts nothing.
func TestSameOfNone(t *testing.T) {
	empty := api.Setup{Groups: []int{}, Locks: make([]api.Lock, 0, 3), Progs: []api.Prog{}}
	checkSame(t, api.Setup{}, api.Setup{}, true)
	checkSame(t, api.Setup{}, empty, true)
	checkSame(t, empty, empty, true)
	checkSame(t, api.Setup{Progs: []api.Prog{{}}}, api.Setup{Progs: []api.Prog{{Ops: []api.Op{}}}}, true)
	checkSame(t, empty, api.Setup{Groups: []int{0}}, false)
	checkSame(t, empty, api.Setup{Locks: []api.Lock{{}}}, false)
	checkSame(t, empty, api.Setup{Progs: []api.Prog{{}}}, false)
	checkSame(t, empty, api.Setup{Cores: 1}, false)
	checkSame(t, api.Setup{Cores: 1, Grain: 2}, api.Setup{Cores: 2, Grain: 1}, false)
}
