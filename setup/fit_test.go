package setup_test

import (
	"slices"
	"strings"
	"testing"

	"forelock/api"
)

// misfits are programs that don't fit three locks, of which the last one is Shared, and three programs; and why.
func misfits() map[string]api.Errno {
	return map[string]api.Errno{
		"prog { lock 3; compute 1; }": api.ErrNone, "prog { try 7; compute 1; }": api.ErrNone, "prog { timed 3 1; compute 1; }": api.ErrNone, "prog { read 3; compute 1; }": api.ErrNone,
		"prog { unlock 3; }": api.ErrNone, "prog { spawn 3; }": api.ErrNone, "prog { exit; spawn 7; }": api.ErrNone,
		"prog { read 0; compute 1; }": api.ErrArg, "prog { read 1; compute 1; unlock 1; }": api.ErrArg,
		"prog { lock 0; }": api.ErrCrit, "prog { lock 0; unlock 0; }": api.ErrCrit, "prog { lock 0; compute 5; }": api.ErrCrit, "prog { lock 1; compute 7; }": api.ErrCrit,
		"prog { read 2; compute 10; }": api.ErrCrit, "prog { try 0; exit; compute 1; }": api.ErrCrit, "prog forever { lock 0; compute 1; }": api.ErrCrit, "prog forever { timed 2 1; compute 1; unlock 1; }": api.ErrCrit,
		"prog forever { unlock 0; }": api.ErrArg, "prog forever { spawn 0; }": api.ErrArg, "prog forever { weight 1; unlock 2; }": api.ErrArg,
		// What its layer tells first of one program.
		"prog { lock 0; lock 3; compute 1; }": api.ErrNone, "prog { read 0; lock 3; }": api.ErrArg, "prog { lock 0; unlock 0; read 0; }": api.ErrCrit,
	}
}

// threeLocks is a head with the locks of misfits: 9+6+6+10 words.
func threeLocks() string {
	return head() + "lock slice 1 crit 4; lock slice 1 crit 6; shared slice 1 crit 9 read 1 write 1; "
}

const fitting = "prog { lock 0; compute 4; unlock 0; read 2; compute 9; spawn 2; } "

// Programs that don't fit are told at the first one's word prog, whichever it is, and whatever the others behind are.
func TestParseOfAMisfit(t *testing.T) {
	for s, why := range misfits() {
		for i := range 3 {
			ahead := threeLocks() + strings.Repeat(fitting, i)
			place := len(scanned(t, ahead))
			checkRefused(t, scanned(t, ahead+s+strings.Repeat(fitting, 2-i)), 0, place, why)
			checkRefused(t, slices.Concat(scanned(t, "x 1 ;"), scanned(t, ahead+s+strings.Repeat(fitting, 2-i)+" tick 0;")), 3, place+3, why)
			for other := range misfits() {
				l := scanned(t, threeLocks()+strings.Repeat(fitting, i)+s+strings.Repeat(other, 2-i))
				checkRefused(t, l, 0, place, why)
			}
		}
	}
	l := scanned(t, threeLocks()+strings.Repeat(fitting, 3))
	want, _, _ := plainParse(l, 0)
	checkParse(t, l, 0, want, len(l), api.OK)
}

// All that is met of the words comes ahead of what doesn't fit.
func TestParseOfAMisfitAndMore(t *testing.T) {
	for s := range misfits() {
		l := scanned(t, threeLocks()+s)
		for more, want := range map[string]struct {
			place int
			why   api.Errno
		}{
			"prog": {1, api.ErrForm}, "prog { }": {2, api.ErrNone}, "prog { compute 0; }": {3, api.ErrArg}, "prog { exit; x }": {4, api.ErrForm},
			"prog { " + strings.Repeat("exit; ", 13): {26, api.ErrLong}, strings.Repeat("prog { exit; }", 8): {5 * 7, api.ErrLong},
		} {
			checkRefused(t, slices.Concat(l, scanned(t, more)), 0, len(l)+want.place, want.why)
		}
	}
}

// A program may spawn those that come behind it, and itself; how many there are is known at the end only.
func TestParseOfSpawn(t *testing.T) {
	for n := 1; n <= 8; n++ {
		for spawned := range 8 {
			for at := range n {
				s := head() + strings.Repeat("prog { exit; } ", at) + "prog { spawn " + string(rune('0'+spawned)) + "; } " + strings.Repeat("prog { exit; } ", n-1-at)
				l := scanned(t, s)
				if spawned < n {
					want, _, _ := plainParse(l, 0)
					checkParse(t, l, 0, want, len(l), api.OK)
					checkMay(t, want)
				} else {
					checkRefused(t, l, 0, 9+5*at, api.ErrNone)
				}
			}
		}
	}
}

// A section's ticks are held against Crit of the lock that is taken.
func TestParseOfCrit(t *testing.T) {
	for lock := range 8 {
		for crit := 1; crit <= 32; crit++ {
			for ticks := 1; ticks <= 34; ticks++ {
				s := api.Setup{Cores: 1, Grain: 1, Groups: []int{1}, Locks: slices.Repeat([]api.Lock{{Slice: 1, Crit: 7}}, 8)}
				s.Locks[lock].Crit = crit
				first := min(ticks, 16)
				ops := []api.Op{{Kind: api.OpTry, A: lock}, {Kind: api.OpCompute, A: first}}
				for rest := ticks - first; rest > 0; rest -= 16 {
					ops = append(ops, api.Op{Kind: api.OpCompute, A: min(rest, 16)})
				}
				s.Progs = []api.Prog{{Ops: ops}}
				if ticks <= crit {
					checkMay(t, s)
					continue
				}
				checkMayNot(t, s)
				checkRefused(t, scanned(t, plainPrint(s)), 0, 9+8*6, api.ErrCrit)
			}
		}
	}
}
