package crit_test

import (
	"slices"
	"testing"

	"forelock/api"
	"forelock/crit"
	"forelock/prog"
	"forelock/token"
)

// This file has what the other tests hold the calls against: the chapter's words, told once more.

// parsed is the program of a text, which must be one.
func parsed(t *testing.T, s string) api.Prog {
	t.Helper()
	l, at, err := token.Scan(s)
	if err != api.OK {
		t.Fatalf("Scan(%q): %d, %d", s, at, err)
	}
	p, at, err := prog.Parse(l, 0)
	if err != api.OK {
		t.Fatalf("Parse(%q): %d, %d", s, at, err)
	}
	return p
}

// asSections is a section a row: From, To, Lock, Ticks.
func asSections(rows [][4]int) []api.Section {
	var l []api.Section
	for _, r := range rows {
		l = append(l, api.Section{From: r[0], To: r[1], Lock: r[2], Ticks: r[3]})
	}
	return l
}

// told is a program as a fault tells it: by its text, or as it stands if it has none.
func told(p api.Prog) any {
	if s, err := prog.Print(p); err == api.OK {
		return s
	}
	return p
}

// plainEnd is the place up to which the section goes that begins at from: backwards over the ops, so that the first one that ends it comes last.
func plainEnd(ops []api.Op, from int) int {
	to := len(ops)
	for k := len(ops) - 1; k > from; k-- {
		if ops[k].Kind == 11 || (ops[k].Kind == 6 && ops[k].A == ops[from].A) {
			to = k
		}
	}
	return to
}

func plainTicks(ops []api.Op) int {
	ticks := 0
	for _, op := range ops {
		if op.Kind == 1 {
			ticks += op.A
		}
	}
	return ticks
}

// plainSections is what Sections is to answer.
func plainSections(p api.Prog) []api.Section {
	var l []api.Section
	for from, op := range p.Ops {
		if op.Kind >= 2 && op.Kind <= 5 {
			to := plainEnd(p.Ops, from)
			l = append(l, api.Section{From: from, To: to, Lock: op.A, Ticks: plainTicks(p.Ops[from:to])})
		}
	}
	return l
}

// plainLongest is what Longest is to answer.
func plainLongest(p api.Prog, lock int) int {
	var ticks []int
	for _, s := range plainSections(p) {
		if s.Lock == lock {
			ticks = append(ticks, s.Ticks)
		}
	}
	if len(ticks) == 0 {
		return 0
	}
	return slices.Max(ticks)
}

// plainMeets is whether just that error is met of the op at that place, whatever else is.
func plainMeets(p api.Prog, at int, err api.Errno, locks []api.Lock, progs int) bool {
	op := p.Ops[at]
	var lock api.Lock
	if op.Kind >= 2 && op.Kind <= 6 && op.A < len(locks) {
		lock = locks[op.A]
	}
	switch {
	case err == api.ErrNone && op.Kind == 9:
		return op.A >= progs
	case err == api.ErrNone:
		return op.Kind >= 2 && op.Kind <= 6 && op.A >= len(locks)
	case err == api.ErrArg:
		return op.Kind == 3 && !lock.Shared
	case op.Kind < 2 || op.Kind > 5:
		return false
	}
	to := plainEnd(p.Ops, at)
	ticks := plainTicks(p.Ops[at:to])
	return ticks == 0 || ticks > lock.Crit || (p.Forever && to == len(p.Ops))
}

// plainCheck is what Check is to answer.
func plainCheck(p api.Prog, locks []api.Lock, progs int) (int, api.Errno) {
	if !prog.May(p) {
		return 0, api.ErrArg
	}
	rests := false
	for at, op := range p.Ops {
		for _, err := range []api.Errno{api.ErrNone, api.ErrArg, api.ErrCrit} {
			if plainMeets(p, at, err, locks, progs) {
				return at, err
			}
		}
		rests = rests || slices.Contains([]int{1, 7, 8, 11}, op.Kind)
	}
	if p.Forever && !rests {
		return 0, api.ErrArg
	}
	return 0, api.OK
}

// checkSections holds Sections, gone over twice, against these answers; the ops may not change by that.
func checkSections(t *testing.T, p api.Prog, want []api.Section) {
	t.Helper()
	kept := slices.Clone(p.Ops)
	loop := crit.Sections(p)
	for range 2 {
		if got := slices.Collect(loop); !slices.Equal(got, want) {
			t.Errorf("Sections(%v): %v; want %v", told(p), got, want)
		}
	}
	if !slices.Equal(p.Ops, kept) {
		t.Errorf("Sections changed the ops: %v; they were %v", p.Ops, kept)
	}
}

// checkLongest holds Longest against that answer; the ops may not change by that.
func checkLongest(t *testing.T, p api.Prog, lock int, want int) {
	t.Helper()
	kept := slices.Clone(p.Ops)
	if got := crit.Longest(p, lock); got != want {
		t.Errorf("Longest(%v, %d): %d; want %d", told(p), lock, got, want)
	}
	if !slices.Equal(p.Ops, kept) {
		t.Errorf("Longest changed the ops: %v; they were %v", p.Ops, kept)
	}
}

// checkCheck holds Check against these answers; neither the ops nor the locks may change by that.
func checkCheck(t *testing.T, p api.Prog, locks []api.Lock, progs int, at int, why api.Errno) {
	t.Helper()
	ops, all := slices.Clone(p.Ops), slices.Clone(locks)
	if n, err := crit.Check(p, locks, progs); n != at || err != why {
		t.Errorf("Check(%v, %v, %d): %d, %d; want %d, %d", told(p), locks, progs, n, err, at, why)
	}
	if !slices.Equal(p.Ops, ops) || !slices.Equal(locks, all) {
		t.Errorf("Check changed what it was given: %v, %v; that was %v, %v", p.Ops, locks, ops, all)
	}
}

// row answers numbers below n, the same ones each time.
func row(seed uint64) func(n int) int {
	state := seed
	return func(n int) int {
		state = state*6364136223846793005 + 1442695040888963407
		return int((state ^ state>>29) >> 33 % uint64(n))
	}
}
