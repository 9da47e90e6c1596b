package heap_test

import (
	"iter"
	"math"
	"slices"
	"testing"

	"forelock/api"
	"forelock/heap"
)

// reached is what a loop says that is left behind n of its rounds.
func reached[T any](loop iter.Seq2[api.Key, T], n int) []pair[T] {
	var l []pair[T]
	for k, v := range loop {
		l = append(l, pair[T]{k, v})
		if len(l) == n {
			break
		}
	}
	return l
}

func checkDue[T comparable](t *testing.T, h *heap.Heap[T], until uint64, want ...pair[T]) {
	t.Helper()
	if got := reached(h.Due(until), 0); !slices.Equal(got, want) {
		t.Errorf("Due(%d): %v; want %v", until, got, want)
	}
}

func TestExample(t *testing.T) {
	h := filled(t, 8, pair[string]{key(5, 1), "a"}, pair[string]{key(3, 2), "b"})
	checkDue(t, h, 4, pair[string]{key(3, 2), "b"})
	checkAll(t, h, pair[string]{key(5, 1), "a"})
}

func TestDue(t *testing.T) {
	l := tens(9)
	for _, c := range []struct {
		until uint64
		due   int
	}{
		// Ahead of all, at just the V of some, between, and behind all.
		{0, 0},
		{9, 0},
		{10, 1},
		{11, 1},
		{19, 1},
		{20, 2},
		{50, 5},
		{55, 5},
		{89, 8},
		{90, 9},
		{91, 9},
		{math.MaxUint64, 9},
	} {
		h := filled(t, 9, l...)
		checkDue(t, h, c.until, l[:c.due]...)
		checkFirst(t, h, l[c.due:]...)
		checkDue(t, h, c.until)
		checkAll(t, h, l[c.due:]...)
	}
}

func TestDueOfSeveralAtTheSameV(t *testing.T) {
	l := []pair[int]{{key(3, 9), 0}, {key(5, -7), 1}, {key(5, -1), 2}, {key(5, 0), 3}, {key(5, 4), 4}, {key(6, -9), 5}}
	for _, until := range []uint64{5, 4, 6} {
		h := filled(t, 6, l[4], l[1], l[5], l[3], l[0], l[2])
		n := map[uint64]int{4: 1, 5: 5, 6: 6}[until]
		checkDue(t, h, until, l[:n]...)
		checkAll(t, h, l[n:]...)
	}
}

func TestDueAtTheLeastAndTheGreatestV(t *testing.T) {
	first, last := pair[string]{key(0, 1), "first"}, pair[string]{key(math.MaxUint64, 0), "last"}
	h := filled(t, 2, last, first)
	checkDue(t, h, 0, first)
	checkDue(t, h, math.MaxUint64-1)
	checkDue(t, h, math.MaxUint64, last)
	checkAll(t, h)
}

func TestDueLeftEarly(t *testing.T) {
	l := tens(9)
	for n := 1; n <= 9; n++ {
		h := filled(t, 9, l...)
		if got := reached(h.Due(70), n); !slices.Equal(got, l[:min(n, 7)]) {
			t.Errorf("Due(70), left behind %d: %v", n, got)
		}
		checkAll(t, h, l[min(n, 7):]...)
	}
}

// Gone over again a loop says what it didn't take away.
func TestDueGoneOverAgain(t *testing.T) {
	l := tens(9)
	h := filled(t, 9, l...)
	due := h.Due(70)
	for _, c := range []struct{ n, from, to int }{{2, 0, 2}, {1, 2, 3}, {3, 3, 6}, {9, 6, 7}, {9, 7, 7}} {
		if got := reached(due, c.n); !slices.Equal(got, l[c.from:c.to]) {
			t.Errorf("gone over again: %v; want %v", got, l[c.from:c.to])
		}
		checkFirst(t, h, l[c.to:]...)
	}
	checkAll(t, h, l[7:]...)
}

// To ask for a loop takes nothing away: that comes when it is gone over, and of what is there then.
func TestDueThatIsNotGoneOver(t *testing.T) {
	l := tens(4)
	h := filled(t, 9, l...)
	due := h.Due(35)
	checkFirst(t, h, l...)
	checkPop(t, h, l[0], true)
	checkMove(t, h, l[1].key.ID, 36, api.OK)
	checkPush(t, h, key(35, 99), 99, api.OK)
	if got, want := reached(due, 0), []pair[int]{l[2], {key(35, 99), 99}}; !slices.Equal(got, want) {
		t.Errorf("Due, gone over behind changes: %v; want %v", got, want)
	}
	checkAll(t, h, pair[int]{key(36, l[1].key.ID), 1}, l[3])
}

// What was told is taken away, and what wasn't is there, in each round of the loop.
func TestDueTakesOneByOne(t *testing.T) {
	l := tens(7)
	h := filled(t, 7, l...)
	n := 0
	for k, v := range h.Due(60) {
		if (pair[int]{k, v}) != l[n] {
			t.Errorf("round %d: %v, %d", n, k, v)
		}
		n++
		checkFirst(t, h, l[n:]...)
	}
	checkAll(t, h, l[6])
}

func TestDueWithinDue(t *testing.T) {
	l := tens(6)
	h := filled(t, 6, l...)
	due := h.Due(50)
	var got []int
	for _, v := range due {
		got = append(got, v)
		for _, w := range due {
			got = append(got, 10*w)
			break
		}
	}
	// Each is taken away once.
	if want := []int{0, 10, 2, 30, 4}; !slices.Equal(got, want) {
		t.Errorf("a loop within the same loop: %v; want %v", got, want)
	}
	checkAll(t, h, l[5])
}

func TestDueOfOtherValues(t *testing.T) {
	h := filled(t, 3, pair[[]int]{key(2, 0), []int{2, 3}}, pair[[]int]{key(3, 1), []int{4}}, pair[[]int]{key(1, 2), nil})
	n := 0
	for k, v := range h.Due(2) {
		if want := [][]int{nil, {2, 3}}[n]; k.V != uint64(n+1) || !slices.Equal(v, want) {
			t.Errorf("Due: %v, %v", k, v)
		}
		n++
	}
	if n != 2 || h.Len() != 1 {
		t.Errorf("Due: %d told, %d left", n, h.Len())
	}
}

func TestDueOfNothing(t *testing.T) {
	var none *heap.Heap[int]
	emptied := filled(t, 2, pair[int]{key(1, 0), 1})
	checkPop(t, emptied, pair[int]{key(1, 0), 1}, true)
	for _, h := range []*heap.Heap[int]{none, heap.New[int](0), heap.New[int](5), emptied} {
		for _, until := range []uint64{0, 1, math.MaxUint64} {
			checkDue(t, h, until)
		}
	}
}
