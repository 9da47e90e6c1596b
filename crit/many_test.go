package crit_test

import (
	"math"
	"testing"

	"forelock/api"
)

// The tests of this file hold the calls against the plain answers, at many arguments.

// checkPlain holds all calls of one program against the plain answers, and answers what Check is to say.
func checkPlain(t *testing.T, p api.Prog, locks []api.Lock, progs int) api.Errno {
	t.Helper()
	checkSections(t, p, plainSections(p))
	for _, lock := range []int{-1, 0, 1, 2, 8} {
		checkLongest(t, p, lock, plainLongest(p, lock))
	}
	at, why := plainCheck(p, locks, progs)
	checkCheck(t, p, locks, progs, at, why)
	return why
}

func checkSeen(t *testing.T, seen map[api.Errno]int, least int) {
	t.Helper()
	for _, err := range []api.Errno{api.OK, api.ErrArg, api.ErrNone, api.ErrCrit} {
		if seen[err] < least {
			t.Errorf("%d came too seldom: %v", err, seen)
		}
	}
}

// Each program of up to so many ops.
func TestEachShortProgram(t *testing.T) {
	vocabulary := []api.Op{
		op(api.OpCompute, 1, 0), op(api.OpCompute, 2, 0), op(api.OpLock, 0, 0), op(api.OpRead, 0, 0), op(api.OpRead, 1, 0),
		op(api.OpUnlock, 0, 0), op(api.OpUnlock, 1, 0), op(api.OpSpawn, 1, 0), op(api.OpExit, 0, 0), op(api.OpWeight, 1, 0),
	}
	seen := map[api.Errno]int{}
	programs := [][]api.Op{nil}
	for range 4 {
		var longer [][]api.Op
		for _, ops := range programs {
			for _, last := range vocabulary {
				longer = append(longer, append(ops[:len(ops):len(ops)], last))
			}
		}
		for _, ops := range longer {
			for _, forever := range []bool{false, true} {
				p := api.Prog{Forever: forever, Ops: ops}
				seen[checkPlain(t, p, []api.Lock{{Crit: 2}, {Shared: true, Crit: 1}}, 2)]++
				seen[checkPlain(t, p, []api.Lock{{Shared: true, Crit: 3}}, 1)]++
			}
		}
		if t.Failed() {
			t.FailNow()
		}
		programs = longer
	}
	checkSeen(t, seen, 1000)
}

// anyOp is an op of which each number may be, but for now and then; ops that take and give back come often.
func anyOp(next func(int) int) api.Op {
	kind := []int{1, 1, 1, 2, 3, 4, 5, 6, 6, 6, 7, 8, 9, 10, 11}[next(15)]
	o := op(kind, next(4), 0)
	switch kind {
	case api.OpCompute, api.OpSleep, api.OpWeight:
		o.A++
	case api.OpTimed:
		o.B = 1 + next(api.MaxSleep)
	case api.OpYield, api.OpExit:
		o.A = 0
	}
	if next(60) == 0 {
		far := []int{math.MinInt, -1 << 32, -1, 0, 7, 8, 12, 16, 17, 64, 65, 1 << 32, math.MaxInt}
		switch n := far[next(len(far))]; next(3) {
		case 0:
			o.Kind = n
		case 1:
			o.A = n
		case 2:
			o.B = n
		}
	}
	return o
}

func anyLocks(next func(int) int) []api.Lock {
	var l []api.Lock
	for range []int{4, 4, 4, 4, 3, 2, 1, 0, 10}[next(9)] {
		crit := []int{-1, 0, 1, 4, 8, 12, 16, 32, 32, 32, 32, 32, math.MaxInt, math.MinInt}[next(14)]
		l = append(l, api.Lock{Shared: next(3) > 0, Slice: next(20), Crit: crit, Read: next(3), Write: next(3)})
	}
	return l
}

func TestManyPrograms(t *testing.T) {
	next := row(20261120)
	seen := map[api.Errno]int{}
	for range 100000 {
		p := api.Prog{Forever: next(2) == 1}
		for range next(15) {
			p.Ops = append(p.Ops, anyOp(next))
		}
		seen[checkPlain(t, p, anyLocks(next), []int{4, 4, 4, 3, 2, 1, 0, -1, math.MaxInt}[next(9)])]++
		if t.Failed() {
			t.FailNow()
		}
	}
	checkSeen(t, seen, 5000)
}
