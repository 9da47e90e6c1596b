package unit_test

import (
	"math"
	"testing"

	"forelock/unit"
)

const (
	coreUnit = 1 << 40
	lockUnit = 720720
	most     = math.MaxUint64
	half     = 1 << 63
)

// edge is a number that may be anything, and what it is brought to.
type edge struct{ n, brought int }

// edges are numbers around those from 1 up to top, and at the ends of all numbers.
func edges(top int) []edge {
	return []edge{
		{math.MinInt, 1}, {math.MinInt + 1, 1}, {-1 << 32, 1}, {-top, 1}, {-2, 1}, {-1, 1}, {0, 1},
		{1, 1}, {2, 2}, {3, 3}, {top - 1, top - 1}, {top, top},
		{top + 1, top}, {top + 2, top}, {2 * top, top}, {1<<32 + 1, top}, {math.MaxInt - 1, top}, {math.MaxInt, top},
	}
}

func checkCore(t *testing.T, w int, want uint64) {
	t.Helper()
	if got := unit.Core(w); got != want {
		t.Errorf("Core(%d): %d; want %d", w, got, want)
	}
}

func TestCore(t *testing.T) {
	for _, c := range []struct {
		w    int
		want uint64
	}{
		{1, coreUnit}, {2, 1 << 39}, {3, 366503875925}, {4, 1 << 38}, {5, 219902325555}, {7, 157073089682}, {10, 109951162777},
		// A weight may be above that of a lock's party.
		{15, 73300775185}, {16, 1 << 36}, {17, 64677154575}, {32, 1 << 35}, {1000, 1099511627},
		{2048, 1 << 29}, {4095, 268501008}, {4096, 1 << 28},
		// What is brought to the greatest weight, or to the least.
		{4097, 1 << 28}, {8192, 1 << 28}, {1 << 32, 1 << 28}, {1<<32 + 1, 1 << 28}, {math.MaxInt - 1, 1 << 28}, {math.MaxInt, 1 << 28},
		{0, coreUnit}, {-1, coreUnit}, {-2, coreUnit}, {-4096, coreUnit}, {math.MinInt + 1, coreUnit}, {math.MinInt, coreUnit},
	} {
		checkCore(t, c.w, c.want)
	}
}

// Of the core's unit less than the weight is left over.
func TestCoreOfEachWeight(t *testing.T) {
	for w := 1; w <= 4096; w++ {
		cost := unit.Core(w)
		if left := int64(coreUnit) - int64(cost)*int64(w); left < 0 || left >= int64(w) {
			t.Errorf("Core(%d): %d, which leaves over %d", w, cost, left)
		}
	}
}

func checkLock(t *testing.T, w int, want uint64) {
	t.Helper()
	if got := unit.Lock(w); got != want {
		t.Errorf("Lock(%d): %d; want %d", w, got, want)
	}
}

func TestLock(t *testing.T) {
	for _, c := range []struct {
		w    int
		want uint64
	}{
		{1, 720720}, {2, 360360}, {3, 240240}, {4, 180180}, {5, 144144}, {6, 120120}, {7, 102960}, {8, 90090},
		{9, 80080}, {10, 72072}, {11, 65520}, {12, 60060}, {13, 55440}, {14, 51480}, {15, 48048}, {16, 45045},
		// A weight may not be as great as that of a core's task.
		{17, 45045}, {18, 45045}, {19, 45045}, {32, 45045}, {4095, 45045}, {4096, 45045}, {4097, 45045},
		{lockUnit, 45045}, {1 << 32, 45045}, {1<<32 + 1, 45045}, {math.MaxInt - 1, 45045}, {math.MaxInt, 45045},
		{0, lockUnit}, {-1, lockUnit}, {-2, lockUnit}, {-16, lockUnit}, {math.MinInt + 1, lockUnit}, {math.MinInt, lockUnit},
	} {
		checkLock(t, c.w, c.want)
	}
}

func checkReach(t *testing.T, w, grain int, want uint64) {
	t.Helper()
	if got := unit.Reach(w, grain); got != want {
		t.Errorf("Reach(%d, %d): %d; want %d", w, grain, got, want)
	}
}

func TestReach(t *testing.T) {
	for _, c := range []struct {
		w, grain int
		want     uint64
	}{
		{1, 1, coreUnit}, {2, 3, 3 << 39}, {1, 7, 7 * coreUnit}, {1, 8, 8 * coreUnit}, {1, 9, 8 * coreUnit},
		{1, 0, coreUnit}, {0, 0, coreUnit}, {4096, 8, 1 << 31}, {4097, 9, 1 << 31}, {4096, 1, 1 << 28},
		// What is left over of the cost is so ahead of all else: eight times the unit by 3 would be greater by 2.
		{3, 8, 2932031007400}, {3, 2, 733007751850}, {4095, 8, 2148008064},
		{math.MaxInt, math.MaxInt, 1 << 31}, {math.MinInt, math.MinInt, coreUnit},
		{math.MinInt, math.MaxInt, 8 * coreUnit}, {math.MaxInt, math.MinInt, 1 << 28},
	} {
		checkReach(t, c.w, c.grain, c.want)
	}
}

// Each number's edges beside each of the other one's.
func TestReachAtEdges(t *testing.T) {
	for _, w := range edges(4096) {
		for _, grain := range edges(8) {
			checkReach(t, w.n, grain.n, coreUnit/uint64(w.brought)*uint64(grain.brought))
		}
	}
}

func checkSlack(t *testing.T, w, slice, crit int, want uint64) {
	t.Helper()
	if got := unit.Slack(w, slice, crit); got != want {
		t.Errorf("Slack(%d, %d, %d): %d; want %d", w, slice, crit, got, want)
	}
}

func TestSlack(t *testing.T) {
	for _, c := range []struct {
		w, slice, crit int
		want           uint64
	}{
		{1, 1, 1, 2 * lockUnit}, {2, 3, 4, 7 * 360360}, {2, 4, 3, 7 * 360360}, {16, 1, 1, 90090},
		// A slice may be longer than that of a setup's lock.
		{1, 16, 1, 17 * lockUnit}, {1, 17, 1, 18 * lockUnit}, {1, 31, 1, 32 * lockUnit}, {1, 32, 1, 33 * lockUnit}, {1, 33, 1, 33 * lockUnit},
		{1, 1, 31, 32 * lockUnit}, {1, 1, 32, 33 * lockUnit}, {1, 1, 33, 33 * lockUnit}, {1, 32, 32, 64 * lockUnit}, {1, 33, 33, 64 * lockUnit},
		// Each is brought for itself, not their sum.
		{1, 0, 0, 2 * lockUnit}, {1, 0, 32, 33 * lockUnit}, {1, -5, 9, 10 * lockUnit}, {1, 9, -5, 10 * lockUnit}, {1, 40, 2, 34 * lockUnit}, {1, 2, 40, 34 * lockUnit},
		{0, 1, 1, 2 * lockUnit}, {17, 1, 1, 90090}, {99, 99, 99, 64 * 45045},
		{math.MaxInt, math.MaxInt, math.MaxInt, 64 * 45045}, {math.MinInt, math.MinInt, math.MinInt, 2 * lockUnit},
		{math.MinInt, math.MaxInt, math.MinInt, 33 * lockUnit}, {math.MinInt, math.MinInt, math.MaxInt, 33 * lockUnit}, {math.MaxInt, 1, 1, 90090},
	} {
		checkSlack(t, c.w, c.slice, c.crit, c.want)
	}
}

func TestSlackAtEdges(t *testing.T) {
	for _, w := range edges(16) {
		for _, slice := range edges(32) {
			for _, crit := range edges(32) {
				checkSlack(t, w.n, slice.n, crit.n, lockUnit/uint64(w.brought)*uint64(slice.brought+crit.brought))
			}
		}
	}
}

func checkClamp(t *testing.T, v, floor, reach, want uint64) {
	t.Helper()
	if got := unit.Clamp(v, floor, reach); got != want {
		t.Errorf("Clamp(%d, %d, %d): %d; want %d", v, floor, reach, got, want)
	}
}

func TestClamp(t *testing.T) {
	for _, c := range []struct{ v, floor, reach, want uint64 }{
		// Below the floor, at it, within, just at floor and reach, and beyond.
		{0, 9, 3, 9}, {5, 9, 3, 9}, {8, 9, 3, 9}, {9, 9, 3, 9}, {10, 9, 3, 10}, {11, 9, 3, 11}, {12, 9, 3, 12}, {13, 9, 3, 12}, {most, 9, 3, 12},
		// No reach.
		{4, 5, 0, 5}, {5, 5, 0, 5}, {6, 5, 0, 5}, {0, 5, 0, 5}, {most, 5, 0, 5},
		{0, 0, 0, 0}, {1, 0, 0, 0}, {most, 0, 0, 0}, {0, most, 0, most}, {most - 1, most, 0, most}, {most, most, 0, most},
		// No floor.
		{0, 0, 7, 0}, {6, 0, 7, 6}, {7, 0, 7, 7}, {8, 0, 7, 7}, {0, 0, most, 0}, {5, 0, most, 5}, {most, 0, most, most},
		// Floor and reach, added, are just the greatest number, or one less.
		{most, half, half - 1, most}, {most - 1, half, half - 1, most - 1}, {half - 1, half, half - 1, half},
		{most, half, half - 2, most - 1}, {most - 1, half, half - 2, most - 1}, {most, most - 1, 1, most}, {0, most - 1, 1, most - 1},
		// They are more than that.
		{most, half, half, most}, {most - 1, half, half, most - 1}, {half, half, half, half}, {0, half, half, half},
		{most, most - 1, 5, most}, {most - 1, most - 1, 5, most - 1}, {0, most - 1, 5, most - 1},
		{5, 9, most, 9}, {9, 9, most, 9}, {most, 9, most, most}, {most - 1, 9, most, most - 1},
		{0, most, most, most}, {most - 1, most, most, most}, {most, most, most, most}, {0, most, 1, most}, {most, most, 1, most},
	} {
		checkClamp(t, c.v, c.floor, c.reach, c.want)
	}
}
