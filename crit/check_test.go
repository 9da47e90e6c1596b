package crit_test

import (
	"math"
	"slices"
	"testing"

	"forelock/api"
)

// two are two locks, of which readers may hold the second one together.
func two() []api.Lock {
	return []api.Lock{{Slice: 1, Crit: 4}, {Shared: true, Slice: 1, Crit: 2, Read: 1, Write: 1}}
}

// checked is a text of ops, and what Check is to answer of it, with two() and 3 programs.
type checked struct {
	s  string
	at int
	e  api.Errno
}

func checkAll(t *testing.T, beginning string, l []checked) {
	t.Helper()
	for _, c := range l {
		checkCheck(t, parsed(t, beginning+c.s+" }"), two(), 3, c.at, c.e)
	}
}

// What is met of ops is the same, whether the program begins anew or not.
func TestCheckOfOps(t *testing.T) {
	l := []checked{
		// Such as fit.
		{"exit;", 0, api.OK},
		{"lock 0; compute 2; unlock 0;", 0, api.OK},
		{"read 1; compute 2; unlock 1;", 0, api.OK},
		{"try 0; compute 2; unlock 0;", 0, api.OK},
		{"timed 1 9; compute 2; unlock 1;", 0, api.OK},
		{"compute 16; sleep 64; yield; weight 16; spawn 2; spawn 0; unlock 0; unlock 1; exit;", 0, api.OK},
		{"lock 0; compute 1; read 1; compute 2; unlock 0; unlock 1; compute 16;", 0, api.OK},
		{"compute 16; lock 0; compute 4; unlock 0; compute 16; lock 0; compute 4; unlock 0; compute 16;", 0, api.OK},
		// ErrNone: a lock, or a program, that there is not.
		{"lock 2; compute 1; unlock 2;", 0, api.ErrNone},
		{"yield; read 2; compute 1; unlock 2;", 1, api.ErrNone},
		{"compute 1; yield; try 7; compute 1; unlock 7;", 2, api.ErrNone},
		{"timed 2 1; compute 1; unlock 2;", 0, api.ErrNone},
		{"yield; unlock 2;", 1, api.ErrNone},
		{"yield; unlock 7;", 1, api.ErrNone},
		{"yield; spawn 3;", 1, api.ErrNone},
		{"yield; spawn 2; spawn 7;", 2, api.ErrNone},
		// The numbers of other ops name neither a lock nor a program.
		{"compute 2; sleep 2; weight 2; compute 16; sleep 64; weight 16;", 0, api.OK},
		{"compute 3; sleep 3; weight 3; spawn 2;", 0, api.OK},
		// ErrArg: a read of a lock that isn't Shared; other ops are let be.
		{"read 0; compute 1; unlock 0;", 0, api.ErrArg},
		{"yield; read 0; compute 1; unlock 0;", 1, api.ErrArg},
		{"lock 0; compute 1; unlock 0; timed 0 3; compute 1; unlock 0; try 0; compute 1; unlock 0;", 0, api.OK},
		{"lock 1; compute 1; unlock 1; timed 1 3; compute 1; unlock 1; try 1; compute 1; unlock 1;", 0, api.OK},
		// ErrCrit: no ticks at all.
		{"lock 0; unlock 0; yield;", 0, api.ErrCrit},
		{"compute 3; lock 0; unlock 0; compute 3;", 1, api.ErrCrit},
		{"lock 0; sleep 2; yield; weight 2; unlock 0;", 0, api.ErrCrit},
		{"yield; timed 1 9; exit; compute 1; unlock 1;", 1, api.ErrCrit},
		{"lock 0; compute 1; lock 1; unlock 1; compute 1; unlock 0;", 2, api.ErrCrit},
		{"lock 0; lock 1; compute 1; unlock 0; read 1; unlock 1;", 4, api.ErrCrit},
		// ErrCrit: more ticks than the lock's Crit.
		{"lock 0; compute 4; unlock 0;", 0, api.OK},
		{"lock 0; compute 5; unlock 0;", 0, api.ErrCrit},
		{"read 1; compute 2; unlock 1;", 0, api.OK},
		{"read 1; compute 3; unlock 1;", 0, api.ErrCrit},
		{"try 0; compute 3; compute 1; unlock 0;", 0, api.OK},
		{"try 0; compute 3; compute 2; unlock 0;", 0, api.ErrCrit},
		{"timed 0 64; compute 1; compute 1; compute 1; compute 1; unlock 0;", 0, api.OK},
		{"timed 0 64; compute 1; compute 1; compute 1; compute 1; compute 1; unlock 0;", 0, api.ErrCrit},
		{"lock 0; compute 2; unlock 0; lock 0; compute 5; unlock 0;", 3, api.ErrCrit},
		{"lock 0; compute 2; lock 1; compute 2; unlock 0; compute 1; unlock 1;", 2, api.ErrCrit},
		{"lock 0; compute 2; lock 1; compute 2; unlock 1; compute 1; unlock 0;", 0, api.ErrCrit},
		{"lock 0; compute 2; unlock 1; compute 3; unlock 0;", 0, api.ErrCrit},
		{"lock 0; compute 4; exit; compute 5; unlock 0;", 0, api.OK},
	}
	checkAll(t, "prog { ", l)
	checkAll(t, "prog forever { ", l)
}

// Of several that are met the first op's is told, and of one op ErrNone ahead of ErrArg ahead of ErrCrit.
func TestCheckOfSeveralAtOnce(t *testing.T) {
	for _, beginning := range []string{"prog { ", "prog forever { "} {
		checkAll(t, beginning, []checked{
			// Of one op.
			{"read 2; unlock 2; yield;", 0, api.ErrNone},
			{"read 7; unlock 7; yield;", 0, api.ErrNone},
			{"lock 2; unlock 2; yield;", 0, api.ErrNone},
			{"read 0; unlock 0; yield;", 0, api.ErrArg},
			{"read 0; compute 5; unlock 0;", 0, api.ErrArg},
			{"read 0; compute 5;", 0, api.ErrArg},
			{"read 1; unlock 1; yield;", 0, api.ErrCrit},
			// Of several ops.
			{"spawn 3; lock 2; compute 1;", 0, api.ErrNone},
			{"yield; lock 0; unlock 0; lock 2; read 0; spawn 7;", 1, api.ErrCrit},
			{"yield; read 0; unlock 0; lock 0; unlock 0; lock 2;", 1, api.ErrArg},
			{"yield; unlock 2; read 0; lock 0; unlock 0;", 1, api.ErrNone},
			{"lock 0; compute 5; read 0; unlock 0; spawn 3;", 0, api.ErrCrit},
			{"lock 0; compute 1; read 0; unlock 0; spawn 3;", 2, api.ErrArg},
			{"lock 0; compute 1; spawn 3; unlock 0; read 0;", 2, api.ErrNone},
			{"lock 0; compute 1; unlock 0; unlock 5; lock 6; spawn 7;", 3, api.ErrNone},
			{"compute 1; spawn 3; unlock 2; read 0; lock 0;", 1, api.ErrNone},
		})
	}
}

// A section up to the end may not be of a program that begins anew; one that an unlock or an exit ends may.
func TestCheckOfSectionsUpToTheEnd(t *testing.T) {
	checkAll(t, "prog { ", []checked{
		{"lock 0; compute 1;", 0, api.OK},
		{"read 1; compute 1;", 0, api.OK},
		{"try 0; compute 4;", 0, api.OK},
		{"timed 1 9; compute 2;", 0, api.OK},
		{"lock 0; compute 1; unlock 1;", 0, api.OK},
		{"lock 0; compute 1; lock 1; compute 1; unlock 0;", 0, api.OK},
		{"lock 0; compute 5;", 0, api.ErrCrit},
		{"compute 1; lock 0;", 1, api.ErrCrit},
	})
	checkAll(t, "prog forever { ", []checked{
		{"lock 0; compute 1;", 0, api.ErrCrit},
		{"read 1; compute 1;", 0, api.ErrCrit},
		{"try 0; compute 4;", 0, api.ErrCrit},
		{"timed 1 9; compute 2;", 0, api.ErrCrit},
		{"lock 0; compute 1; unlock 1;", 0, api.ErrCrit},
		{"lock 0; compute 1; unlock 0; lock 0; compute 1;", 3, api.ErrCrit},
		{"unlock 0; yield; lock 0; compute 1;", 2, api.ErrCrit},
		{"lock 0; compute 1; lock 1; compute 1; unlock 0;", 2, api.ErrCrit},
		{"lock 0; compute 1; lock 1; compute 1; unlock 1;", 0, api.ErrCrit},
		{"compute 1; lock 0;", 1, api.ErrCrit},
		{"lock 0; compute 1; unlock 0;", 0, api.OK},
		{"lock 0; compute 1; exit;", 0, api.OK},
		{"read 1; compute 1; exit; unlock 0;", 0, api.OK},
		{"lock 0; compute 1; lock 1; compute 1; exit;", 0, api.OK},
		{"lock 0; compute 1; exit; lock 0; compute 1;", 3, api.ErrCrit},
	})
}

// A program that begins anew needs an op at which time goes by, or that ends it; that it has none comes behind all that is met of its ops.
func TestCheckOfProgramsThatNeverRest(t *testing.T) {
	l := []checked{
		{"weight 3;", 0, api.ErrArg},
		{"unlock 0;", 0, api.ErrArg},
		{"spawn 0;", 0, api.ErrArg},
		{"unlock 1; weight 1; spawn 2; unlock 0;", 0, api.ErrArg},
		{"weight 1; weight 1; weight 1; weight 1; weight 1; weight 1; weight 1; weight 1; weight 1; weight 1; weight 1; weight 1;", 0, api.ErrArg},
	}
	checkAll(t, "prog forever { ", l)
	for _, c := range l {
		checkAll(t, "prog { ", []checked{{c.s, 0, api.OK}})
	}
	for _, rest := range []string{"compute 1;", "compute 16;", "sleep 1;", "sleep 64;", "yield;", "exit;"} {
		checkAll(t, "prog forever { ", []checked{
			{rest, 0, api.OK},
			{rest + " weight 3; unlock 0; spawn 0;", 0, api.OK},
			{"weight 3; unlock 0; " + rest + " spawn 0;", 0, api.OK},
			{"weight 3; unlock 0; spawn 0; " + rest, 0, api.OK},
		})
	}
	// Of the ops something is met ahead of that.
	for _, beginning := range []string{"prog { ", "prog forever { "} {
		checkAll(t, beginning, []checked{
			{"weight 3; unlock 0; spawn 3;", 2, api.ErrNone},
			{"weight 3; unlock 2;", 1, api.ErrNone},
			{"weight 3; unlock 0; read 0;", 2, api.ErrArg},
			{"weight 3; lock 0; unlock 0;", 1, api.ErrCrit},
			{"weight 3; lock 0; unlock 0; spawn 3;", 1, api.ErrCrit},
		})
	}
}

// So many locks: the last one is there, the next one is not; none, and more than a setup may have.
func TestCheckOfHowManyLocks(t *testing.T) {
	for n := range 20 {
		locks := slices.Repeat([]api.Lock{{Shared: true, Crit: 1}}, n)
		for a := range api.MaxLocks {
			for kind := api.OpLock; kind <= api.OpUnlock; kind++ {
				taking := op(kind, a, 0)
				if kind == api.OpTimed {
					taking.B = 1
				}
				p := api.Prog{Ops: []api.Op{op(api.OpYield, 0, 0), taking, op(api.OpCompute, 1, 0)}}
				if a < n {
					checkCheck(t, p, locks, 0, 0, api.OK)
				} else {
					checkCheck(t, p, locks, 0, 1, api.ErrNone)
				}
			}
		}
	}
	checkCheck(t, parsed(t, "prog { unlock 0; }"), nil, 3, 0, api.ErrNone)
	checkCheck(t, parsed(t, "prog { lock 0; compute 1; }"), []api.Lock{}, 3, 0, api.ErrNone)
	checkCheck(t, parsed(t, "prog forever { compute 3; spawn 2; weight 1; }"), nil, 3, 0, api.OK)
}

func TestCheckOfHowManyPrograms(t *testing.T) {
	for _, progs := range []int{math.MinInt, -1 << 32, -8, -1, 0, 1, 2, 3, 7, 8, 9, 100, 1 << 32, math.MaxInt} {
		for a := range api.MaxProgs {
			p := api.Prog{Ops: []api.Op{op(api.OpYield, 0, 0), op(api.OpSpawn, a, 0)}}
			if a < progs {
				checkCheck(t, p, nil, progs, 0, api.OK)
			} else {
				checkCheck(t, p, nil, progs, 1, api.ErrNone)
			}
		}
		// What spawns nothing needs no programs.
		checkCheck(t, parsed(t, "prog { lock 1; compute 2; unlock 1; exit; }"), two(), progs, 0, api.OK)
	}
}

// Each Crit, and ticks of just so many, one more, one less, and none.
func TestCheckOfCrit(t *testing.T) {
	for _, most := range []int{math.MinInt, -1 << 32, -1, 0, 1, 2, 15, 16, 17, 31, 32, 33, 176, 177, 1 << 32, math.MaxInt} {
		for _, shared := range []bool{false, true} {
			// The other locks' Crit, and what else is said of them, doesn't matter.
			locks := []api.Lock{{Crit: 1}, {Shared: shared, Crit: most}, {Shared: true, Crit: 1000, Slice: -1, Read: 99, Write: -99}}
			for ticks := range 161 {
				p := api.Prog{Forever: ticks%2 == 1, Ops: []api.Op{op(api.OpTry, 1, 0)}}
				for left := ticks; left > 0; left -= 16 {
					p.Ops = append(p.Ops, op(api.OpCompute, min(left, 16), 0))
				}
				p.Ops = append(p.Ops, op(api.OpUnlock, 1, 0))
				if ticks > 0 && ticks <= most {
					checkCheck(t, p, locks, 0, 0, api.OK)
				} else {
					checkCheck(t, p, locks, 0, 0, api.ErrCrit)
				}
			}
		}
	}
}

// Of a lock that isn't Shared a read may not be, whatever else is said of it; of one that is, any.
func TestCheckOfShared(t *testing.T) {
	for _, l := range []api.Lock{{Crit: 9}, {Crit: 9, Slice: 3, Read: 2, Write: 5}, {Crit: 9, Slice: -3, Read: -2, Write: -5}, {Crit: math.MaxInt}} {
		for _, kind := range []int{api.OpLock, api.OpRead, api.OpTry, api.OpTimed} {
			taking := op(kind, 1, 0)
			if kind == api.OpTimed {
				taking.B = 64
			}
			p := api.Prog{Ops: []api.Op{op(api.OpSleep, 1, 0), taking, op(api.OpCompute, 9, 0), op(api.OpUnlock, 1, 0)}}
			open := l
			open.Shared = true
			checkCheck(t, p, []api.Lock{l, open}, 0, 0, api.OK)
			if kind == api.OpRead {
				checkCheck(t, p, []api.Lock{open, l}, 0, 1, api.ErrArg)
			} else {
				checkCheck(t, p, []api.Lock{open, l}, 0, 0, api.OK)
			}
		}
	}
}

// A program that may not be is told ahead of all else, at place 0.
func TestCheckOfProgramsThatMayNotBe(t *testing.T) {
	yield := op(api.OpYield, 0, 0)
	for _, ops := range [][]api.Op{
		nil,
		{},
		slices.Repeat([]api.Op{yield}, 13),
		slices.Repeat([]api.Op{op(api.OpLock, 7, 0)}, 13),
		{{}},
		{yield, {}},
		{yield, op(12, 0, 0)},
		{yield, op(-1, 0, 0)},
		{yield, op(math.MaxInt, 0, 0)},
		{op(api.OpCompute, 0, 0)},
		{yield, op(api.OpCompute, 17, 0)},
		{yield, op(api.OpCompute, -1, 0)},
		{yield, op(api.OpCompute, math.MinInt, 0)},
		{yield, op(api.OpLock, 8, 0), op(api.OpCompute, 1, 0)},
		{yield, op(api.OpLock, -1, 0), op(api.OpCompute, 1, 0)},
		{yield, op(api.OpRead, 0, 1), op(api.OpCompute, 1, 0)},
		{yield, op(api.OpTry, math.MinInt, 0), op(api.OpCompute, 1, 0)},
		{yield, op(api.OpTimed, 0, 0), op(api.OpCompute, 1, 0)},
		{yield, op(api.OpTimed, 0, 65), op(api.OpCompute, 1, 0)},
		{yield, op(api.OpUnlock, -1, 0)},
		{yield, op(api.OpUnlock, math.MaxInt, 0)},
		{yield, op(api.OpSpawn, -1, 0)},
		{yield, op(api.OpSpawn, 8, 0)},
		{yield, op(api.OpSleep, 65, 0)},
		{yield, op(api.OpWeight, 0, 0)},
		{yield, op(api.OpExit, 1, 0)},
		// What would be met of an op ahead of the one that may not be isn't told.
		{yield, op(api.OpUnlock, 7, 0), op(api.OpCompute, 0, 0)},
		{yield, op(api.OpSpawn, 7, 0), op(api.OpCompute, 0, 0)},
		{yield, op(api.OpRead, 0, 0), op(api.OpCompute, 17, 0)},
		{yield, op(api.OpLock, 0, 0), op(api.OpUnlock, 0, 0), op(api.OpExit, 0, 1)},
		{op(api.OpWeight, 1, 0), op(api.OpWeight, 17, 0)},
	} {
		for _, locks := range [][]api.Lock{nil, two(), make([]api.Lock, 12)} {
			for _, progs := range []int{math.MinInt, 0, 3, math.MaxInt} {
				checkCheck(t, api.Prog{Ops: ops}, locks, progs, 0, api.ErrArg)
				checkCheck(t, api.Prog{Forever: true, Ops: ops}, locks, progs, 0, api.ErrArg)
			}
		}
	}
}
