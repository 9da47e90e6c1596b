package arena_test

import (
	"iter"
	"slices"
	"testing"

	"forelock/api"
	"forelock/arena"
)

// gaps is an arena of 6 places with values at 1, 3 and 4.
func gaps(t *testing.T) *arena.Arena[string] {
	t.Helper()
	a := filled(t, 8, "a", "b", "c", "d", "e", "f")
	for _, at := range []int{5, 0, 2} {
		if _, ok := a.Drop(at); !ok {
			t.Fatalf("Drop(%d): false", at)
		}
	}
	return a
}

func inGaps() []pair[string] {
	return []pair[string]{{1, "b"}, {3, "d"}, {4, "e"}}
}

// asked is what a loop says that is left behind n of its rounds.
func asked[T any](loop iter.Seq2[int, T], n int) []pair[T] {
	var l []pair[T]
	for at, v := range loop {
		l = append(l, pair[T]{at, v})
		if len(l) == n {
			break
		}
	}
	return l
}

func TestAllOverGaps(t *testing.T) {
	a := gaps(t)
	checkAll(t, a, inGaps()...)
	checkPut(t, a, "g", 2, api.OK)
	checkAll(t, a, pair[string]{1, "b"}, pair[string]{2, "g"}, pair[string]{3, "d"}, pair[string]{4, "e"})
}

func TestAllLeftEarlyAndGoneOverAgain(t *testing.T) {
	a := gaps(t)
	loop := a.All()
	for _, n := range []int{1, 3, 2, 1, 4} {
		want := inGaps()[:min(n, 3)]
		if got := asked(loop, n); !slices.Equal(got, want) {
			t.Errorf("left behind %d: %v; want %v", n, got, want)
		}
	}
	// To go over an arena takes nothing away.
	checkAll(t, a, inGaps()...)
}

// What a loop says is what was there when it was asked for.
func TestAllKeepsWhatItGoesOver(t *testing.T) {
	a := gaps(t)
	loop := a.All()
	checkSet(t, a, 3, "D", true)
	checkDrop(t, a, 1, "b", true)
	checkPut(t, a, "h", 1, api.OK)
	checkPut(t, a, "i", 2, api.OK)
	if got := asked(loop, 9); !slices.Equal(got, inGaps()) {
		t.Errorf("All, gone over behind changes: %v; want %v", got, inGaps())
	}
	checkAll(t, a, pair[string]{1, "h"}, pair[string]{2, "i"}, pair[string]{3, "D"}, pair[string]{4, "e"})
}

func TestLoopWithinLoop(t *testing.T) {
	loop := filled(t, 4, 1, 2, 3).All()
	var got []int
	for _, v := range loop {
		for _, w := range loop {
			got = append(got, 10*v+w)
		}
	}
	if want := []int{11, 12, 13, 21, 22, 23, 31, 32, 33}; !slices.Equal(got, want) {
		t.Errorf("a loop within the same loop: %v; want %v", got, want)
	}
}

func TestAllOfNothing(t *testing.T) {
	var none *arena.Arena[int]
	emptied := filled(t, 2, 1)
	checkDrop(t, emptied, 0, 1, true)
	for i, a := range []*arena.Arena[int]{none, arena.New[int](0), arena.New[int](5), emptied} {
		loop := a.All()
		if loop == nil {
			t.Fatalf("arena %d: All is nil", i)
		}
		if got := asked(loop, 1); len(got) != 0 {
			t.Errorf("arena %d: All: %v", i, got)
		}
	}
}
