package fifo_test

import (
	"iter"
	"slices"
	"testing"

	"forelock/api"
	"forelock/fifo"
)

// reached is what a loop says that is left behind n of its rounds.
func reached[T any](loop iter.Seq2[int, T], n int) []pair[T] {
	var l []pair[T]
	for ticket, v := range loop {
		l = append(l, pair[T]{ticket, v})
		if len(l) == n {
			break
		}
	}
	return l
}

// gaps is a queue of which the first, the last and one between were taken away.
func gaps(t *testing.T) *fifo.Queue[string] {
	t.Helper()
	q := filled(t, 6, "a", "b", "c", "d", "e", "f")
	checkRemove(t, q, 6, "f", true)
	checkRemove(t, q, 3, "c", true)
	checkPop(t, q, "a", true)
	return q
}

func inGaps() []pair[string] {
	return []pair[string]{{2, "b"}, {4, "d"}, {5, "e"}}
}

func TestAllOverGaps(t *testing.T) {
	q := gaps(t)
	checkAll(t, q, inGaps()...)
	// Those that come later are behind, wherever there was room for them.
	checkPush(t, q, "g", 7, api.OK)
	checkPush(t, q, "h", 8, api.OK)
	checkAll(t, q, append(inGaps(), pair[string]{7, "g"}, pair[string]{8, "h"})...)
}

func TestAllLeftEarlyAndGoneOverAgain(t *testing.T) {
	q := gaps(t)
	loop := q.All()
	for _, n := range []int{1, 3, 2, 1, 4, 0} {
		want := inGaps()
		if n > 0 && n < len(want) {
			want = want[:n]
		}
		if got := reached(loop, n); !slices.Equal(got, want) {
			t.Errorf("left behind %d: %v; want %v", n, got, want)
		}
	}
	// To go over a queue takes nothing away.
	checkEmptied(t, q, inGaps()...)
}

// What a loop says is what was there when it was asked for.
func TestAllKeepsWhatItGoesOver(t *testing.T) {
	q := gaps(t)
	loop := q.All()
	checkRemove(t, q, 4, "d", true)
	checkPush(t, q, "g", 7, api.OK)
	if got := reached(loop, 0); !slices.Equal(got, inGaps()) {
		t.Errorf("All, gone over behind changes: %v; want %v", got, inGaps())
	}
	checkEmptied(t, q, pair[string]{2, "b"}, pair[string]{5, "e"}, pair[string]{7, "g"})
	if got := reached(loop, 2); !slices.Equal(got, inGaps()[:2]) {
		t.Errorf("All, gone over when none is left: %v; want %v", got, inGaps()[:2])
	}
}

func TestLoopWithinLoop(t *testing.T) {
	loop := filled(t, 4, 1, 2, 3).All()
	var got []int
	for _, v := range loop {
		for ticket := range loop {
			got = append(got, 10*v+ticket)
		}
	}
	if want := []int{11, 12, 13, 21, 22, 23, 31, 32, 33}; !slices.Equal(got, want) {
		t.Errorf("a loop within the same loop: %v; want %v", got, want)
	}
}

func TestAllOfOtherValues(t *testing.T) {
	n := 0
	for ticket, v := range filled(t, 3, []int{2, 3}, nil, []int{4}).All() {
		if want := [][]int{{2, 3}, nil, {4}}[n]; ticket != n+1 || !slices.Equal(v, want) {
			t.Errorf("All: %d, %v", ticket, v)
		}
		n++
	}
	if n != 3 {
		t.Errorf("All: %d told", n)
	}
}

func TestAllOfNothing(t *testing.T) {
	var none *fifo.Queue[int]
	emptied := filled(t, 2, 1)
	checkPop(t, emptied, 1, true)
	for i, q := range []*fifo.Queue[int]{none, fifo.New[int](0), fifo.New[int](5), emptied} {
		loop := q.All()
		if loop == nil {
			t.Fatalf("queue %d: All is nil", i)
		}
		if got := reached(loop, 1); len(got) != 0 {
			t.Errorf("queue %d: All: %v", i, got)
		}
	}
}
