package prog_test

import (
	"iter"
	"math"
	"slices"
	"testing"

	"forelock/api"
	"forelock/prog"
)

func TestMayOfNone(t *testing.T) {
	for _, p := range []api.Prog{{}, {Forever: true}, {Ops: []api.Op{}}, {Forever: true, Ops: make([]api.Op, 0, 5)}} {
		checkMayNot(t, p)
	}
}

func TestMayOfHowManyOps(t *testing.T) {
	for _, op := range edges() {
		for n := 1; n <= 30; n++ {
			for _, forever := range []bool{false, true} {
				p := api.Prog{Forever: forever, Ops: slices.Repeat([]api.Op{op}, n)}
				if n <= 12 {
					checkMay(t, p)
				} else {
					checkMayNot(t, p)
				}
			}
		}
	}
	checkMayNot(t, api.Prog{Ops: slices.Repeat([]api.Op{{Kind: api.OpExit}}, 100000)})
}

// Of each kind each two numbers, of those that may be and those beside them.
func TestMayOfEachOp(t *testing.T) {
	may := 0
	for kind := -1; kind <= 13; kind++ {
		for a := -1; a <= 66; a++ {
			for b := -1; b <= 66; b++ {
				op := api.Op{Kind: kind, A: a, B: b}
				p := api.Prog{Ops: []api.Op{op}}
				if plainMayOp(op) {
					may++
					checkMay(t, p)
				} else if prog.May(p) {
					t.Errorf("May(%v): true", p)
				}
			}
		}
	}
	// 16 of compute and of weight, 8 of five kinds, 8 times 64 of timed, 64 of sleep, 1 of yield and of exit.
	if want := 2*16 + 5*8 + 8*64 + 64 + 2; may != want {
		t.Errorf("%d ops may be; want %d", may, want)
	}
}

func TestMayOfEdges(t *testing.T) {
	for _, op := range []api.Op{
		{Kind: api.OpCompute, A: 1}, {Kind: api.OpCompute, A: 16}, {Kind: api.OpLock}, {Kind: api.OpLock, A: 7}, {Kind: api.OpRead}, {Kind: api.OpRead, A: 7},
		{Kind: api.OpTry}, {Kind: api.OpTry, A: 7}, {Kind: api.OpTimed, B: 1}, {Kind: api.OpTimed, B: 64}, {Kind: api.OpTimed, A: 7, B: 1}, {Kind: api.OpTimed, A: 7, B: 64},
		{Kind: api.OpUnlock}, {Kind: api.OpUnlock, A: 7}, {Kind: api.OpSleep, A: 1}, {Kind: api.OpSleep, A: 64}, {Kind: api.OpYield},
		{Kind: api.OpSpawn}, {Kind: api.OpSpawn, A: 7}, {Kind: api.OpWeight, A: 1}, {Kind: api.OpWeight, A: 16}, {Kind: api.OpExit},
	} {
		checkMay(t, api.Prog{Ops: []api.Op{op}})
		checkMay(t, api.Prog{Forever: true, Ops: []api.Op{op}})
	}
	if n := len(edges()); n != 22 {
		t.Errorf("%d edges", n)
	}
}

// mayNotBe are some ops of which each has one thing alone that may not be.
func mayNotBe() []api.Op {
	l := []api.Op{
		{}, {Kind: 12}, {Kind: -1}, {Kind: -11}, {Kind: 13}, {Kind: math.MinInt}, {Kind: math.MaxInt}, {Kind: 1<<32 + 11}, {Kind: 1<<8 + 8}, {Kind: 0, A: 1}, {Kind: 12, A: 1, B: 1},
		{Kind: api.OpCompute}, {Kind: api.OpCompute, A: -1}, {Kind: api.OpCompute, A: 17},
		{Kind: api.OpTimed}, {Kind: api.OpTimed, B: 65}, {Kind: api.OpTimed, B: -1}, {Kind: api.OpTimed, A: 8, B: 1}, {Kind: api.OpTimed, A: -1, B: 1}, {Kind: api.OpTimed, A: 1},
		{Kind: api.OpSleep}, {Kind: api.OpSleep, A: -1}, {Kind: api.OpSleep, A: 65}, {Kind: api.OpWeight}, {Kind: api.OpWeight, A: -1}, {Kind: api.OpWeight, A: 17},
		{Kind: api.OpYield, A: 1}, {Kind: api.OpYield, A: -1}, {Kind: api.OpExit, A: 1}, {Kind: api.OpExit, A: math.MinInt},
	}
	for _, kind := range []int{api.OpLock, api.OpRead, api.OpTry, api.OpUnlock, api.OpSpawn} {
		for _, a := range []int{-1, 8, math.MinInt, math.MaxInt, 1 << 32} {
			l = append(l, api.Op{Kind: kind, A: a})
		}
	}
	// Numbers that the op has not.
	for _, op := range edges() {
		for _, b := range []int{-1, 1, 64, math.MinInt, math.MaxInt, 1 << 32} {
			if op.Kind != api.OpTimed {
				op.B = b
				l = append(l, op)
			}
		}
	}
	return l
}

// One that may not be is enough, wherever it stands.
func TestMayOfOpsThatMayNotBe(t *testing.T) {
	for _, op := range mayNotBe() {
		for n := 1; n <= 13; n++ {
			for at := range n {
				ops := slices.Repeat([]api.Op{{Kind: api.OpLock, A: 3}}, n)
				ops[at] = op
				checkMayNot(t, api.Prog{Forever: at%2 == 0, Ops: ops})
			}
		}
	}
	checkMayNot(t, api.Prog{Ops: make([]api.Op, 5)})
}

func TestMayOfAnyNumbers(t *testing.T) {
	for kind := -1; kind <= 12; kind++ {
		for _, a := range numbers() {
			for _, b := range numbers() {
				op := api.Op{Kind: kind, A: a, B: b}
				if got := prog.May(api.Prog{Ops: []api.Op{op}}); got != plainMayOp(op) {
					t.Errorf("May of %v alone: %t", op, got)
				}
			}
		}
	}
}

func TestPrintOfEachKind(t *testing.T) {
	p := api.Prog{Forever: true, Ops: []api.Op{
		{Kind: api.OpCompute, A: 16}, {Kind: api.OpLock}, {Kind: api.OpRead, A: 7}, {Kind: api.OpTry, A: 3}, {Kind: api.OpTimed, A: 2, B: 64}, {Kind: api.OpUnlock},
		{Kind: api.OpSleep, A: 1}, {Kind: api.OpYield}, {Kind: api.OpSpawn, A: 5}, {Kind: api.OpWeight, A: 16}, {Kind: api.OpExit}, {Kind: api.OpCompute, A: 1},
	}}
	if text, err := prog.Print(p); text != whole() || err != api.OK {
		t.Errorf("Print: %q, %d; want %q", text, err, whole())
	}
	checkMay(t, p)
	p.Forever = false
	checkMay(t, p)
}

func TestWordsHaveNoPlaces(t *testing.T) {
	p := api.Prog{Ops: []api.Op{{Kind: api.OpTimed, A: 0, B: 9}}}
	want := []api.Word{name("prog"), mark("{"), name("timed"), num(0), num(9), mark(";"), mark("}")}
	l, err := prog.Words(p)
	if !slices.Equal(l, want) || err != api.OK {
		t.Errorf("Words: %v, %d; want %v", l, err, want)
	}
	p.Forever = true
	l, err = prog.Words(p)
	if !slices.Equal(l, slices.Insert(want, 1, name("forever"))) || err != api.OK {
		t.Errorf("Words: %v, %d", l, err)
	}
}

func TestWordsAnswersAnew(t *testing.T) {
	p := plainProg(scanned(t, whole()))
	first, _ := prog.Words(p)
	second, _ := prog.Words(p)
	kept := slices.Clone(second)
	for i := range first {
		first[i] = api.Word{}
	}
	if !slices.Equal(second, kept) {
		t.Errorf("one answer hangs on another: %v; it was %v", second, kept)
	}
	checkMay(t, p)
}

func checkSame(t *testing.T, a, b api.Prog, want bool) {
	t.Helper()
	keptA, keptB := slices.Clone(a.Ops), slices.Clone(b.Ops)
	if got := prog.Same(a, b); got != want {
		t.Errorf("Same(%v, %v): %t", a, b, got)
	}
	if got := prog.Same(b, a); got != want {
		t.Errorf("Same(%v, %v): %t", b, a, got)
	}
	if !slices.Equal(a.Ops, keptA) || !slices.Equal(b.Ops, keptB) {
		t.Error("Same changed what it was given")
	}
}

func TestSameOfNone(t *testing.T) {
	for _, a := range [][]api.Op{nil, {}, make([]api.Op, 0, 3)} {
		for _, b := range [][]api.Op{nil, {}, make([]api.Op, 0, 3)} {
			for _, forever := range []bool{false, true} {
				checkSame(t, api.Prog{Forever: forever, Ops: a}, api.Prog{Forever: forever, Ops: b}, true)
				checkSame(t, api.Prog{Forever: forever, Ops: a}, api.Prog{Forever: !forever, Ops: b}, false)
				checkSame(t, api.Prog{Forever: forever, Ops: a}, api.Prog{Forever: forever, Ops: make([]api.Op, 1)}, false)
			}
		}
	}
}

// Programs that differ in one field of one op, or in one op more, at each place; whether they may be counts nothing.
func TestSame(t *testing.T) {
	ops := plainProg(scanned(t, whole())).Ops
	for n := 1; n <= 40; n++ {
		a := api.Prog{Ops: slices.Repeat(ops, 4)[:n]}
		if n%2 == 0 {
			a.Ops[0] = api.Op{Kind: -5, A: math.MinInt, B: math.MaxInt}
		}
		checkSame(t, a, a, true)
		checkSame(t, a, api.Prog{Ops: slices.Clone(a.Ops)}, true)
		checkSame(t, a, api.Prog{Forever: true, Ops: slices.Clone(a.Ops)}, false)
		checkSame(t, a, api.Prog{Ops: a.Ops[:n-1]}, false)
		checkSame(t, a, api.Prog{Ops: a.Ops[1:]}, false)
		checkSame(t, a, api.Prog{Ops: append(slices.Clone(a.Ops), api.Op{})}, false)
		for at := range n {
			for _, by := range []int{-1, 1, 1 << 32, math.MinInt} {
				for field := range 3 {
					b := api.Prog{Ops: slices.Clone(a.Ops)}
					switch field {
					case 0:
						b.Ops[at].Kind += by
					case 1:
						b.Ops[at].A += by
					case 2:
						b.Ops[at].B += by
					}
					checkSame(t, a, b, false)
				}
			}
		}
	}
	checkSame(t, api.Prog{Ops: []api.Op{{Kind: 7, A: 1}, {Kind: 8}}}, api.Prog{Ops: []api.Op{{Kind: 8}, {Kind: 7, A: 1}}}, false)
	checkSame(t, api.Prog{Ops: []api.Op{{Kind: 5, A: 1, B: 2}}}, api.Prog{Ops: []api.Op{{Kind: 5, A: 2, B: 1}}}, false)
}

// reached is what a loop says that is left behind n of its rounds; the places must be from 0 on.
func reached(t *testing.T, loop iter.Seq2[int, api.Op], n int) []api.Op {
	t.Helper()
	var l []api.Op
	for at, op := range loop {
		if at != len(l) {
			t.Errorf("the place %d behind %d ops", at, len(l))
		}
		l = append(l, op)
		if len(l) == n {
			break
		}
	}
	return l
}

// anyOps are ops of programs that may be, and of such that may not.
func anyOps(t *testing.T) [][]api.Op {
	t.Helper()
	return [][]api.Op{
		{{Kind: api.OpExit}}, {{}}, make([]api.Op, 13), edges(), mayNotBe(), plainProg(scanned(t, whole())).Ops,
		{{Kind: 99, A: -1, B: math.MaxInt}, {Kind: -99}, {Kind: api.OpCompute, A: 99}},
		slices.Repeat([]api.Op{{Kind: 5, A: 1, B: 2}, {Kind: 5, A: 2, B: 1}}, 500),
	}
}

func TestEachLeftEarlyAndGoneOverAgain(t *testing.T) {
	for _, ops := range anyOps(t) {
		for _, forever := range []bool{false, true} {
			kept := slices.Clone(ops)
			loop := prog.Each(api.Prog{Forever: forever, Ops: ops})
			for n := 1; n <= len(ops); n = n*3/2 + 1 {
				if got := reached(t, loop, n); !slices.Equal(got, kept[:n]) {
					t.Errorf("Each of %d ops, left behind %d: %v; want %v", len(ops), n, got, kept[:n])
				}
				if got := reached(t, loop, 0); !slices.Equal(got, kept) {
					t.Errorf("Each of %d ops, gone over whole: %v; want %v", len(ops), got, kept)
				}
			}
			if !slices.Equal(ops, kept) {
				t.Errorf("Each changed the ops: %v; they were %v", ops, kept)
			}
		}
	}
}

func TestEachOfNone(t *testing.T) {
	for _, p := range []api.Prog{{}, {Forever: true}, {Ops: []api.Op{}}, {Ops: make([]api.Op, 0, 9)}} {
		loop := prog.Each(p)
		if loop == nil {
			t.Fatal("Each is nil")
		}
		for range 2 {
			for at, op := range loop {
				t.Errorf("Each of none: %d, %v", at, op)
			}
		}
	}
}

// What is handed in isn't kept: what is done to it behind the call isn't seen by the loop.
func TestEachOfOpsThatAreChanged(t *testing.T) {
	for _, ops := range anyOps(t) {
		given, kept := slices.Clone(ops), slices.Clone(ops)
		loop := prog.Each(api.Prog{Ops: given})
		for round := range 3 {
			for i := range given {
				given[i] = api.Op{Kind: 1000 + round}
			}
			if got := reached(t, loop, 0); !slices.Equal(got, kept) {
				t.Errorf("Each of ops that were changed: %v; want %v", got, kept)
			}
		}
	}
}

func TestEachWithinEach(t *testing.T) {
	loop := prog.Each(api.Prog{Ops: []api.Op{{Kind: 3}, {Kind: 1}, {Kind: 2}}})
	var got []int
	for at, op := range loop {
		for within, other := range loop {
			got = append(got, 1000*at+100*op.Kind+10*within+other.Kind)
		}
	}
	if want := []int{303, 311, 322, 1103, 1111, 1122, 2203, 2211, 2222}; !slices.Equal(got, want) {
		t.Errorf("a loop within the same loop: %v; want %v", got, want)
	}
}

func TestName(t *testing.T) {
	for kind, want := range map[int]string{
		api.OpCompute: "compute", api.OpLock: "lock", api.OpRead: "read", api.OpTry: "try", api.OpTimed: "timed", api.OpUnlock: "unlock",
		api.OpSleep: "sleep", api.OpYield: "yield", api.OpSpawn: "spawn", api.OpWeight: "weight", api.OpExit: "exit",
		0: "", 12: "", 13: "", -1: "", -11: "", 100: "", math.MaxInt: "", math.MinInt: "", 1 << 32: "", 1<<32 + 1: "", 1<<8 + 1: "", math.MinInt + 1: "",
	} {
		if got := prog.Name(kind); got != want {
			t.Errorf("Name(%d): %q; want %q", kind, got, want)
		}
	}
	for kind := -300; kind <= 300; kind++ {
		if got := prog.Name(kind); (got != "") != (kind >= 1 && kind <= 11) {
			t.Errorf("Name(%d): %q", kind, got)
		}
	}
}
