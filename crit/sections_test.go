package crit_test

import (
	"math"
	"slices"
	"testing"

	"forelock/api"
	"forelock/crit"
)

func TestSections(t *testing.T) {
	for _, c := range []struct {
		s    string
		want [][4]int
	}{
		// The chapter's example, and programs without a section.
		{"lock 0; compute 2; unlock 0;", [][4]int{{0, 2, 0, 2}}},
		{"yield;", nil},
		{"exit;", nil},
		{"unlock 3;", nil},
		{"compute 1; sleep 2; yield; unlock 0; spawn 1; weight 5; compute 9; exit;", nil},
		// Each op that takes, and at each end of what a lock's number may be.
		{"lock 7; compute 3; unlock 7;", [][4]int{{0, 2, 7, 3}}},
		{"read 7; compute 3; unlock 7;", [][4]int{{0, 2, 7, 3}}},
		{"try 7; compute 3; unlock 7;", [][4]int{{0, 2, 7, 3}}},
		{"timed 7 64; compute 3; unlock 7;", [][4]int{{0, 2, 7, 3}}},
		{"timed 0 1; compute 3; unlock 0;", [][4]int{{0, 2, 0, 3}}},
		// No other op begins one, nor ends one.
		{"lock 1; compute 1; sleep 1; yield; spawn 1; weight 1; read 1; try 1; timed 1 1; lock 1; unlock 1;", [][4]int{{0, 10, 1, 1}, {6, 10, 1, 0}, {7, 10, 1, 0}, {8, 10, 1, 0}, {9, 10, 1, 0}}},
		// Computes ahead of it, within it and behind it, none at all, and other numbers than those of computes.
		{"compute 9; lock 0; compute 1; compute 2; sleep 50; compute 4; unlock 0; compute 16;", [][4]int{{1, 6, 0, 7}}},
		{"compute 9; lock 0; unlock 0; compute 16;", [][4]int{{1, 2, 0, 0}}},
		{"lock 0; sleep 3; weight 4; spawn 5; unlock 0;", [][4]int{{0, 4, 0, 0}}},
		{"timed 5 60; compute 16; compute 16; compute 16; compute 16; compute 16; compute 16; compute 16; compute 16; compute 16; compute 16; compute 16;", [][4]int{{0, 12, 5, 176}}},
		// Just an unlock of that lock ends it, and the first one.
		{"lock 0; compute 2; unlock 1; compute 3; unlock 0; compute 9;", [][4]int{{0, 4, 0, 5}}},
		{"lock 1; compute 2; unlock 0; compute 3; unlock 2; compute 9;", [][4]int{{0, 6, 1, 14}}},
		{"lock 2; compute 2; unlock 2; compute 3; unlock 2; compute 4;", [][4]int{{0, 2, 2, 2}}},
		{"unlock 2; compute 7; lock 2; compute 2; unlock 2;", [][4]int{{2, 4, 2, 2}}},
		// An exit ends any, if it comes first.
		{"lock 2; compute 4; exit; compute 5; unlock 2;", [][4]int{{0, 2, 2, 4}}},
		{"lock 2; compute 4; unlock 2; compute 5; exit;", [][4]int{{0, 2, 2, 4}}},
		{"lock 2; exit;", [][4]int{{0, 1, 2, 0}}},
		{"exit; lock 2; compute 4; unlock 2;", [][4]int{{1, 3, 2, 4}}},
		{"lock 1; lock 2; compute 1; exit; compute 2; unlock 2; unlock 1; exit;", [][4]int{{0, 3, 1, 1}, {1, 3, 2, 1}}},
		{"lock 1; compute 1; exit; try 1; compute 2; exit; compute 3; unlock 1;", [][4]int{{0, 2, 1, 1}, {3, 5, 1, 2}}},
		// If none comes, it goes up to the end.
		{"lock 3;", [][4]int{{0, 1, 3, 0}}},
		{"try 2; compute 4;", [][4]int{{0, 2, 2, 4}}},
		{"yield; read 6; compute 4; yield; compute 1;", [][4]int{{1, 5, 6, 5}}},
		{"compute 2; compute 3; lock 4;", [][4]int{{2, 3, 4, 0}}},
		// Several of one lock: one behind the other, and within one another.
		{"lock 0; compute 1; unlock 0; read 0; compute 5; unlock 0; try 0; compute 3; unlock 0;", [][4]int{{0, 2, 0, 1}, {3, 5, 0, 5}, {6, 8, 0, 3}}},
		{"lock 0; lock 0; compute 1; unlock 0;", [][4]int{{0, 3, 0, 1}, {1, 3, 0, 1}}},
		{"lock 0; compute 2; timed 0 3; compute 1; unlock 0; compute 8; unlock 0;", [][4]int{{0, 4, 0, 3}, {2, 4, 0, 1}}},
		// Within one another, across one another, and two that end together.
		{"lock 0; compute 1; lock 1; compute 2; unlock 1; compute 4; unlock 0;", [][4]int{{0, 6, 0, 7}, {2, 4, 1, 2}}},
		{"lock 0; compute 1; read 1; compute 2; unlock 0; compute 4; unlock 1;", [][4]int{{0, 4, 0, 3}, {2, 6, 1, 6}}},
		{"lock 3; compute 1; try 2; compute 2; timed 1 9; compute 4; unlock 2; compute 8; unlock 1; unlock 3;", [][4]int{{0, 9, 3, 15}, {2, 6, 2, 6}, {4, 8, 1, 12}}},
		{"lock 1; compute 1; lock 2; compute 2; lock 3; compute 4; exit;", [][4]int{{0, 6, 1, 7}, {2, 6, 2, 6}, {4, 6, 3, 4}}},
		{"lock 1; compute 1; lock 2; compute 2;", [][4]int{{0, 4, 1, 3}, {2, 4, 2, 2}}},
	} {
		// That a program begins anew for ever changes none of its sections.
		for _, beginning := range []string{"prog { ", "prog forever { "} {
			checkSections(t, parsed(t, beginning+c.s+" }"), asSections(c.want))
		}
	}
}

// op is an op of numbers that it perhaps may not have.
func op(kind, a, b int) api.Op {
	return api.Op{Kind: kind, A: a, B: b}
}

// The sections of a program that may not be are told by the same words.
func TestSectionsOfProgramsThatMayNotBe(t *testing.T) {
	for _, c := range []struct {
		ops  []api.Op
		want [][4]int
	}{
		{nil, nil},
		{[]api.Op{}, nil},
		{make([]api.Op, 20), nil},
		// Kinds that are none neither begin a section, nor end it, nor have ticks.
		{[]api.Op{op(0, 1, 1), op(12, 1, 1), op(-2, 1, 1), op(99, 1, 1), op(1<<32+2, 1, 1), op(math.MinInt, 0, 0), op(math.MaxInt, 0, 0)}, nil},
		{[]api.Op{op(2, 1, 0), op(0, 1, 0), op(12, 1, 0), op(-6, 1, 0), op(-1, 5, 0), op(1, 2, 0), op(13, 1, 0), op(1<<32+6, 1, 0), op(1<<32+1, 7, 0)}, [][4]int{{0, 9, 1, 2}}},
		// Numbers that such an op may not have.
		{[]api.Op{op(2, 8, 0), op(1, 17, 0), op(6, 8, 0)}, [][4]int{{0, 2, 8, 17}}},
		{[]api.Op{op(3, -1, 0), op(1, 1000, 3), op(6, -1, 0)}, [][4]int{{0, 2, -1, 1000}}},
		{[]api.Op{op(4, math.MaxInt, 0), op(1, 0, 0), op(6, math.MinInt, 0), op(1, 3, 0), op(6, math.MaxInt, 0)}, [][4]int{{0, 4, math.MaxInt, 3}}},
		{[]api.Op{op(5, math.MinInt, -4), op(1, 2, 0), op(6, math.MaxInt, 0), op(1, 3, 0), op(6, math.MinInt, 9)}, [][4]int{{0, 4, math.MinInt, 5}}},
		{[]api.Op{op(2, 1, 7), op(1, 2, -7), op(6, 0, 1), op(1, 4, 4), op(6, 1, 2), op(1, 8, 0)}, [][4]int{{0, 4, 1, 6}}},
		{[]api.Op{op(2, 1, 7), op(1, 2, 0), op(11, 3, 4), op(1, 4, 0), op(6, 1, 0)}, [][4]int{{0, 2, 1, 2}}},
		{[]api.Op{op(2, 1<<32, 0), op(1, 2, 0), op(6, 0, 0), op(1, 3, 0), op(6, 1<<32, 0)}, [][4]int{{0, 4, 1 << 32, 5}}},
		// Computes of 0 and below.
		{[]api.Op{op(2, 0, 0), op(1, 0, 0), op(1, -5, 0), op(1, 2, 0)}, [][4]int{{0, 4, 0, -3}}},
		{[]api.Op{op(2, 0, 0), op(1, 5, 0), op(1, -5, 0), op(6, 0, 0)}, [][4]int{{0, 3, 0, 0}}},
		{[]api.Op{op(2, 0, 0), op(1, math.MaxInt, 0), op(6, 0, 0), op(2, 0, 0), op(1, math.MinInt, 0)}, [][4]int{{0, 2, 0, math.MaxInt}, {3, 5, 0, math.MinInt}}},
		{[]api.Op{op(2, 0, 0), op(1, math.MaxInt, 0), op(1, math.MinInt, 0), op(1, 9, 0)}, [][4]int{{0, 4, 0, 8}}},
		// More than 12 ops.
		{append(slices.Repeat([]api.Op{op(1, 16, 0)}, 12), op(2, 3, 0)), [][4]int{{12, 13, 3, 0}}},
		{append([]api.Op{op(2, 3, 0)}, slices.Repeat([]api.Op{op(1, 16, 0)}, 12)...), [][4]int{{0, 13, 3, 192}}},
		{append([]api.Op{op(4, 3, 0)}, append(slices.Repeat([]api.Op{op(1, 2, 0)}, 500), op(6, 3, 0), op(1, 1, 0))...), [][4]int{{0, 501, 3, 1000}}},
	} {
		for _, forever := range []bool{false, true} {
			checkSections(t, api.Prog{Forever: forever, Ops: c.ops}, asSections(c.want))
		}
	}
}

// looped are programs with several sections, of which one may not be.
func looped(t *testing.T) []api.Prog {
	t.Helper()
	return []api.Prog{
		parsed(t, "prog { lock 0; compute 2; unlock 0; }"),
		parsed(t, "prog { yield; lock 0; lock 1; compute 2; unlock 0; try 2; compute 3; unlock 1; timed 0 9; exit; compute 1; read 3; }"),
		parsed(t, "prog forever { lock 0; lock 0; lock 0; lock 0; lock 0; lock 0; lock 0; lock 0; lock 0; lock 0; lock 0; lock 0; }"),
		{Ops: slices.Repeat([]api.Op{op(2, 9, 9), op(1, -3, 0), op(5, -9, 0), op(0, 0, 0), op(6, 9, 0)}, 8)},
	}
}

func TestSectionsLeftEarlyAndGoneOverAgain(t *testing.T) {
	for _, p := range looped(t) {
		whole := plainSections(p)
		loop := crit.Sections(p)
		for n := 1; n <= len(whole); n++ {
			var got []api.Section
			for s := range loop {
				got = append(got, s)
				if len(got) == n {
					break
				}
			}
			if !slices.Equal(got, whole[:n]) {
				t.Errorf("Sections(%v), left behind %d: %v; want %v", told(p), n, got, whole[:n])
			}
			if got := slices.Collect(loop); !slices.Equal(got, whole) {
				t.Errorf("Sections(%v), gone over whole: %v; want %v", told(p), got, whole)
			}
		}
	}
}

func TestSectionsWithinSections(t *testing.T) {
	for _, p := range looped(t) {
		whole := plainSections(p)
		loop := crit.Sections(p)
		at := 0
		for s := range loop {
			if s != whole[at] {
				t.Errorf("Sections(%v): %v; want %v", told(p), s, whole[at])
			}
			at++
			if got := slices.Collect(loop); !slices.Equal(got, whole) {
				t.Errorf("Sections(%v), within itself: %v; want %v", told(p), got, whole)
			}
		}
		if at != len(whole) {
			t.Errorf("Sections(%v): %d sections; want %d", told(p), at, len(whole))
		}
	}
}

// What is handed in isn't kept: what is done to it behind the call isn't seen by the loop.
func TestSectionsOfOpsThatAreChanged(t *testing.T) {
	for _, p := range looped(t) {
		whole := plainSections(p)
		loop := crit.Sections(p)
		for _, other := range []api.Op{op(6, 0, 0), op(1, 5, 0), op(2, 3, 0), {}} {
			for i := range p.Ops {
				p.Ops[i] = other
			}
			if got := slices.Collect(loop); !slices.Equal(got, whole) {
				t.Errorf("Sections of ops that were changed: %v; want %v", got, whole)
			}
		}
	}
}

func TestLongest(t *testing.T) {
	for _, c := range []struct {
		s    string
		want [4]int
	}{
		{"yield;", [4]int{}},
		{"compute 9;", [4]int{}},
		{"unlock 0; compute 9; unlock 1;", [4]int{}},
		{"lock 0; compute 2; unlock 0;", [4]int{2, 0, 0, 0}},
		{"lock 3; compute 2; unlock 3;", [4]int{0, 0, 0, 2}},
		{"read 1; compute 3;", [4]int{0, 3, 0, 0}},
		{"try 1; compute 4; exit; compute 9;", [4]int{0, 4, 0, 0}},
		{"timed 2 50; compute 5; unlock 2; compute 6;", [4]int{0, 0, 5, 0}},
		{"lock 0; unlock 0; compute 9;", [4]int{}},
		// The greatest one first, in the midst, last; and alike.
		{"lock 0; compute 5; unlock 0; lock 0; compute 3; unlock 0; lock 0; compute 4; unlock 0;", [4]int{5, 0, 0, 0}},
		{"lock 0; compute 3; unlock 0; read 0; compute 5; unlock 0; try 0; compute 4; unlock 0;", [4]int{5, 0, 0, 0}},
		{"lock 0; compute 3; unlock 0; lock 0; compute 4; unlock 0; timed 0 1; compute 5; unlock 0;", [4]int{5, 0, 0, 0}},
		{"lock 0; compute 4; unlock 0; lock 0; compute 4; unlock 0; lock 0; unlock 0;", [4]int{4, 0, 0, 0}},
		// Of several locks each for itself.
		{"lock 0; compute 1; unlock 0; lock 0; compute 5; unlock 0; lock 1; compute 9; unlock 1;", [4]int{5, 9, 0, 0}},
		{"lock 0; compute 1; lock 1; compute 2; unlock 0; compute 4; unlock 1; lock 3; compute 16; compute 16;", [4]int{3, 6, 0, 32}},
		{"lock 0; lock 0; compute 1; compute 2; unlock 0;", [4]int{3, 0, 0, 0}},
	} {
		for _, beginning := range []string{"prog { ", "prog forever { "} {
			p := parsed(t, beginning+c.s+" }")
			for lock, want := range c.want {
				checkLongest(t, p, lock, want)
			}
			for _, lock := range []int{4, 7, 8, 64, -1, -2, 1 << 32, math.MaxInt, math.MinInt} {
				checkLongest(t, p, lock, 0)
			}
		}
	}
}

func TestLongestOfProgramsThatMayNotBe(t *testing.T) {
	for _, lock := range []int{0, 7, 8, -1, 1 << 32, math.MaxInt, math.MinInt} {
		checkLongest(t, api.Prog{}, lock, 0)
		checkLongest(t, api.Prog{Forever: true, Ops: []api.Op{op(0, lock, 0), op(1, 9, 0), op(6, lock, 0), op(12, lock, 0)}}, lock, 0)
		p := api.Prog{Ops: []api.Op{op(2, lock, 5), op(1, 17, 0), op(6, lock, 0), op(5, lock, -1), op(1, 20, 0)}}
		checkLongest(t, p, lock, 20)
		checkLongest(t, p, 3, 0)
		// Where all are below 0, the greatest of them is.
		p = api.Prog{Ops: []api.Op{op(2, lock, 0), op(1, -7, 0), op(6, lock, 0), op(2, lock, 0), op(1, -3, 0), op(6, lock, 0), op(3, lock, 0), op(1, -4, 0)}}
		checkLongest(t, p, lock, -3)
		p.Ops = append(p.Ops, op(11, 0, 0), op(2, lock, 0))
		checkLongest(t, p, lock, 0)
	}
}
