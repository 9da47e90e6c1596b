package unit_test

import (
	"math"
	"slices"
	"testing"

	"forelock/unit"
)

// wide is 2^31, which ticks and k are brought to at most.
const wide = 1 << 31

func checkFair(t *testing.T, ticks, weights []int, k int, want bool) {
	t.Helper()
	had, were := slices.Clone(ticks), slices.Clone(weights)
	if got := unit.Fair(ticks, weights, k); got != want {
		t.Errorf("Fair(%v, %v, %d): %v", had, were, k, got)
	}
	if !slices.Equal(ticks, had) || !slices.Equal(weights, were) {
		t.Errorf("Fair(%v, %v, %d) leaves %v and %v", had, were, k, ticks, weights)
	}
}

// checkWorst asks Worst, and Fair with what it must answer and with many a k beside it.
func checkWorst(t *testing.T, ticks, weights []int, want int) {
	t.Helper()
	had, were := slices.Clone(ticks), slices.Clone(weights)
	if got := unit.Worst(ticks, weights); got != want {
		t.Errorf("Worst(%v, %v): %d; want %d", had, were, got, want)
	}
	if !slices.Equal(ticks, had) || !slices.Equal(weights, were) {
		t.Errorf("Worst(%v, %v) leaves %v and %v", had, were, ticks, weights)
	}
	for _, k := range []int{
		math.MinInt, math.MinInt + 1, -wide - 1, -wide, -2, -1, 0, 1, want - 2, want - 1, want, want + 1,
		wide - 1, wide, wide + 1, 1 << 32, 1<<32 + 1, 1 << 40, math.MaxInt - 1, math.MaxInt,
	} {
		checkFair(t, ticks, weights, k, want >= 0 && min(max(k, 0), wide) >= want)
	}
}

// times is n, so many times.
func times(count, n int) []int {
	return slices.Repeat([]int{n}, count)
}

// apartBy is a list of its first value, and so many times another one.
func apartBy(first, count, n int) []int {
	return append([]int{first}, times(count, n)...)
}

type fairCase struct {
	ticks, weights []int
	worst          int
}

func checkCases(t *testing.T, cases []fairCase) {
	t.Helper()
	for _, c := range cases {
		checkWorst(t, c.ticks, c.weights, c.worst)
	}
}

func TestFairOfNone(t *testing.T) {
	checkCases(t, []fairCase{{nil, nil, 0}, {[]int{}, []int{}, 0}, {nil, []int{}, 0}, {[]int{}, nil, 0}})
}

// One has all ticks, whatever it weighs.
func TestFairOfOne(t *testing.T) {
	for _, n := range []int{math.MinInt, -1, 0, 1, 2, 7, wide - 1, wide, wide + 1, math.MaxInt} {
		for _, w := range []int{math.MinInt, -1, 0, 1, 2, 16, 17, 4095, 4096, 4097, math.MaxInt} {
			checkWorst(t, []int{n}, []int{w}, 0)
		}
	}
}

func TestFairOfTwo(t *testing.T) {
	checkCases(t, []fairCase{
		{[]int{3, 1}, []int{3, 1}, 0}, {[]int{1, 3}, []int{3, 1}, 2}, {[]int{3, 1}, []int{1, 1}, 1}, {[]int{3, 1}, []int{2, 1}, 1},
		{[]int{4, 2}, []int{2, 1}, 0}, {[]int{40, 20}, []int{2, 1}, 0}, {[]int{41, 20}, []int{2, 1}, 1}, {[]int{40, 21}, []int{2, 1}, 1},
		// The sum of weights is 3: it divides the distance where that is 3, 6 and 9.
		{[]int{4, 1}, []int{2, 1}, 1}, {[]int{5, 1}, []int{2, 1}, 1}, {[]int{6, 1}, []int{2, 1}, 2}, {[]int{7, 1}, []int{2, 1}, 2},
		{[]int{8, 1}, []int{2, 1}, 2}, {[]int{9, 1}, []int{2, 1}, 3}, {[]int{11, 1}, []int{2, 1}, 3}, {[]int{12, 1}, []int{2, 1}, 4},
		// Either of them may be the one that has too few.
		{[]int{1, 2}, []int{2, 1}, 1}, {[]int{0, 1}, []int{2, 1}, 1}, {[]int{0, 2}, []int{2, 1}, 2}, {[]int{0, 3}, []int{2, 1}, 2}, {[]int{0, 4}, []int{2, 1}, 3},
		{[]int{2, 0}, []int{2, 1}, 1}, {[]int{3, 0}, []int{2, 1}, 1}, {[]int{4, 0}, []int{2, 1}, 2},
		{[]int{9, 0}, []int{1, 1}, 5}, {[]int{0, 9}, []int{1, 1}, 5}, {[]int{10, 0}, []int{1, 1}, 5}, {[]int{0, 11}, []int{1, 1}, 6},
		{[]int{1, 0}, []int{1, 4096}, 1}, {[]int{4097, 0}, []int{1, 4096}, 4096}, {[]int{4098, 0}, []int{1, 4096}, 4097}, {[]int{1, 4096}, []int{1, 4096}, 0},
	})
}

func TestFairOfSome(t *testing.T) {
	checkCases(t, []fairCase{
		{[]int{1, 1, 1}, []int{1, 1, 1}, 0}, {[]int{6, 3, 2}, []int{6, 3, 2}, 0}, {[]int{12, 6, 4}, []int{6, 3, 2}, 0}, {[]int{2, 3, 6}, []int{6, 3, 2}, 4},
		{[]int{2, 1, 0}, []int{1, 1, 1}, 1}, {[]int{3, 0, 0}, []int{1, 1, 1}, 2}, {[]int{4, 0, 0}, []int{1, 1, 1}, 3}, {[]int{0, 0, 4}, []int{1, 1, 1}, 3},
		// The worst one is the first, in the midst, the last.
		{[]int{9, 3, 3, 3}, []int{1, 1, 1, 1}, 5}, {[]int{3, 9, 3, 3}, []int{1, 1, 1, 1}, 5}, {[]int{3, 3, 3, 9}, []int{1, 1, 1, 1}, 5},
		{[]int{0, 4, 4, 4}, []int{1, 1, 1, 1}, 3}, {[]int{4, 4, 0, 4}, []int{1, 1, 1, 1}, 3}, {[]int{4, 4, 4, 0}, []int{1, 1, 1, 1}, 3},
		// All have what they weigh but for one tick.
		{[]int{100, 200, 300, 401}, []int{1, 2, 3, 4}, 1}, {[]int{101, 200, 300, 400}, []int{1, 2, 3, 4}, 1}, {[]int{99, 200, 300, 400}, []int{1, 2, 3, 4}, 1},
	})
}

func TestFairOfMany(t *testing.T) {
	checkCases(t, []fairCase{
		{times(63, 5), times(63, 2), 0}, {times(64, 5), times(64, 2), 0},
		{times(65, 5), times(65, 2), -1}, {times(65, 0), times(65, 1), -1}, {times(66, 5), times(66, 2), -1}, {times(1000, 1), times(1000, 1), -1},
		{apartBy(64, 63, 0), times(64, 1), 63}, {apartBy(0, 63, 64), times(64, 1), 63}, {append(times(63, 0), 64), times(64, 1), 63}, {append(times(63, 0), 65), times(64, 1), 64},
		{append(times(64, 0), 64), times(65, 1), -1},
	})
}

func TestFairOfUnlikeLengths(t *testing.T) {
	checkCases(t, []fairCase{
		{[]int{1}, nil, -1}, {nil, []int{1}, -1}, {[]int{1}, []int{}, -1}, {[]int{}, []int{1}, -1}, {[]int{0}, nil, -1}, {nil, []int{0}, -1},
		{[]int{1, 1}, []int{1}, -1}, {[]int{1}, []int{1, 1}, -1}, {[]int{3, 1, 0}, []int{3, 1}, -1}, {[]int{3, 1}, []int{3, 1, 0}, -1},
		{times(64, 1), times(63, 1), -1}, {times(63, 1), times(64, 1), -1}, {times(65, 1), times(64, 1), -1}, {times(64, 1), times(65, 1), -1},
		{times(65, 1), nil, -1}, {nil, times(65, 1), -1}, {times(66, 1), times(65, 1), -1}, {times(65, 1), times(66, 1), -1},
	})
}

// Nobody is apart from a share of nothing.
func TestFairOfNoTicks(t *testing.T) {
	checkCases(t, []fairCase{
		{[]int{0, 0}, []int{1, 1}, 0}, {[]int{0, 0}, []int{1, 4096}, 0}, {[]int{0, 0, 0}, []int{3, 0, math.MaxInt}, 0}, {times(64, 0), times(64, 4096), 0},
		{[]int{-1, 0}, []int{1, 9}, 0}, {[]int{math.MinInt, -7}, []int{1, 9}, 0},
	})
}

func TestFairBringsTicks(t *testing.T) {
	checkCases(t, []fairCase{
		{[]int{-1, 4}, []int{1, 1}, 2}, {[]int{math.MinInt, 4}, []int{1, 1}, 2}, {[]int{4, math.MinInt + 1}, []int{1, 1}, 2}, {[]int{-4, 4, 0}, []int{1, 1, 1}, 3},
		{[]int{wide - 2, 0}, []int{1, 1}, wide/2 - 1}, {[]int{wide - 1, 0}, []int{1, 1}, wide / 2}, {[]int{wide, 0}, []int{1, 1}, wide / 2},
		{[]int{wide + 1, 0}, []int{1, 1}, wide / 2}, {[]int{wide + 2, 0}, []int{1, 1}, wide / 2}, {[]int{0, 1 << 32}, []int{1, 1}, wide / 2},
		{[]int{1 << 40, 0}, []int{1, 1}, wide / 2}, {[]int{0, 1 << 62}, []int{1, 1}, wide / 2}, {[]int{math.MaxInt, 0}, []int{1, 1}, wide / 2},
		{[]int{wide, math.MaxInt}, []int{1, 1}, 0}, {[]int{wide - 1, math.MaxInt}, []int{1, 1}, 1}, {[]int{wide - 2, wide + 5}, []int{1, 1}, 1},
		{[]int{math.MaxInt, math.MinInt}, []int{1, 1}, wide / 2}, {times(64, math.MaxInt), times(64, 1), 0},
	})
}

func TestFairBringsWeights(t *testing.T) {
	checkCases(t, []fairCase{
		{[]int{5, 5}, []int{0, 1}, 0}, {[]int{5, 5}, []int{1, -1}, 0}, {[]int{5, 5}, []int{math.MinInt, 0}, 0}, {[]int{10, 5}, []int{2, math.MinInt + 1}, 0},
		{[]int{4094, 1}, []int{4095, 1}, 1}, {[]int{4095, 1}, []int{4095, 1}, 0}, {[]int{4096, 1}, []int{4096, 1}, 0}, {[]int{4096, 1}, []int{4097, 1}, 0}, {[]int{1, 4096}, []int{1, 4098}, 0},
		{[]int{4096, 1}, []int{8192, 1}, 0}, {[]int{4096, 1}, []int{1<<32 + 1, 1}, 0}, {[]int{1, 4096}, []int{1, math.MaxInt}, 0},
		{[]int{7, 7}, []int{4096, math.MaxInt}, 0}, {[]int{7, 7}, []int{math.MaxInt, math.MaxInt - 1}, 0}, {[]int{4096, 1}, []int{math.MaxInt, math.MinInt}, 0},
		// A weight may be above that of a lock's party.
		{[]int{17, 1}, []int{17, 1}, 0}, {[]int{16, 1}, []int{17, 1}, 1}, {[]int{100, 1}, []int{100, 1}, 0},
	})
}

// The first one has nothing of all the others' ticks, and weighs so much that its share is more than any one can have: k isn't brought where it is answered, but where it is asked with.
func TestFairAtGreatDistances(t *testing.T) {
	checkCases(t, []fairCase{
		{[]int{0, wide, 1<<20 - 1}, []int{4096, 1, 1}, wide}, {[]int{0, wide, 1 << 20}, []int{4096, 1, 1}, wide}, {[]int{0, wide, 1<<20 + 1}, []int{4096, 1, 1}, wide + 1},
		{[]int{0, wide, 1<<20 - 2}, []int{4096, 1, 1}, wide - 1}, {[]int{0, wide, wide}, []int{4096, 1, 1}, 4292871168},
		{apartBy(0, 63, wide), apartBy(4096, 63, 1), 133242091945}, {append(times(63, wide), 0), append(times(63, 1), 4096), 133242091945},
		{apartBy(math.MinInt, 63, math.MaxInt), apartBy(math.MaxInt, 63, math.MinInt), 133242091945},
		{apartBy(63, 63, wide), apartBy(4096, 63, 1), 133242091945}, {apartBy(64, 63, wide), apartBy(4096, 63, 1), 133242091944}, {apartBy(0, 63, wide), times(64, 1), wide - wide/64},
	})
}

// What of a list lies behind its end counts nothing, and stays.
func TestFairOfPieces(t *testing.T) {
	ticks, weights := []int{3, 1, 77, -5}, []int{3, 1, 0, 9999}
	checkWorst(t, ticks[:2], weights[:2], 0)
	checkWorst(t, ticks[:2], weights[:3], -1)
	if !slices.Equal(ticks, []int{3, 1, 77, -5}) || !slices.Equal(weights, []int{3, 1, 0, 9999}) {
		t.Errorf("what was handed in is %v and %v", ticks, weights)
	}
}

// One list may be both.
func TestFairOfOneListTwice(t *testing.T) {
	l := []int{5, 1, 4096, 16}
	checkWorst(t, l, l, 0)
	l = []int{5, 0, 4097, -3}
	checkWorst(t, l, l, 2)
}
