package mix_test

import (
	"math"
	"slices"
	"testing"

	"forelock/mix"
)

func checkOrder(t *testing.T, seed uint64, n int, want []int) {
	t.Helper()
	if got := mix.Order(seed, n); !slices.Equal(got, want) {
		t.Errorf("Order(%#x, %d): %v; want %v", seed, n, got, want)
	}
}

// upTo is the numbers from 0 to n less 1, rising.
func upTo(n int) []int {
	var l []int
	for len(l) < n {
		l = append(l, len(l))
	}
	return l
}

func seeds() []uint64 {
	return []uint64{
		0, 1, 2, 9, 77, 1 << 32, math.MaxInt64 - 63, math.MaxInt64 - 1, math.MaxInt64, 1 << 63, 1<<63 + 1,
		0x61C8864680B583EB, 0x9E3779B97F4A7C15,
		math.MaxUint64 - 63, math.MaxUint64 - 62, math.MaxUint64 - 3, math.MaxUint64 - 1, math.MaxUint64,
	}
}

func TestExample(t *testing.T) {
	for _, seed := range seeds() {
		checkOrder(t, seed, 1, []int{0})
	}
}

func TestOrderOfTwo(t *testing.T) {
	for _, c := range []struct {
		seed uint64
		want []int
	}{
		// The mix of 1 is odd: place 1 changes with itself. That of 2 is even: it changes with place 0.
		{0, []int{0, 1}},
		{1, []int{1, 0}},
		{9, []int{1, 0}},
		{math.MaxInt64, []int{0, 1}},
		{1 << 63, []int{1, 0}},
		{math.MaxUint64 - 2, []int{0, 1}},
		{math.MaxUint64 - 1, []int{1, 0}},
		// Seed and place go round to 0, whose mix is odd.
		{math.MaxUint64, []int{0, 1}},
	} {
		checkOrder(t, c.seed, 2, c.want)
	}
}

// The orders of these tables were reckoned apart from the program.
func TestOrderOfFew(t *testing.T) {
	for _, c := range []struct {
		seed               uint64
		three, five, eight []int
	}{
		{0, []int{0, 2, 1}, []int{0, 2, 4, 1, 3}, []int{0, 5, 4, 1, 6, 2, 3, 7}},
		{1, []int{1, 2, 0}, []int{1, 4, 0, 2, 3}, []int{1, 4, 0, 5, 3, 7, 2, 6}},
		{9, []int{1, 2, 0}, []int{1, 2, 4, 3, 0}, []int{1, 5, 4, 3, 6, 2, 0, 7}},
		{math.MaxInt64, []int{0, 1, 2}, []int{3, 4, 2, 0, 1}, []int{6, 4, 2, 0, 1, 5, 7, 3}},
		{1 << 63, []int{1, 0, 2}, []int{1, 3, 4, 0, 2}, []int{1, 3, 4, 5, 2, 6, 7, 0}},
		{math.MaxUint64 - 3, []int{0, 1, 2}, []int{3, 1, 2, 4, 0}, []int{3, 1, 2, 6, 0, 7, 4, 5}},
		{math.MaxUint64 - 2, []int{0, 1, 2}, []int{4, 1, 2, 3, 0}, []int{5, 1, 6, 3, 0, 4, 7, 2}},
		{math.MaxUint64 - 1, []int{2, 0, 1}, []int{2, 4, 3, 1, 0}, []int{7, 4, 5, 1, 0, 3, 6, 2}},
		{math.MaxUint64, []int{0, 1, 2}, []int{0, 1, 4, 2, 3}, []int{7, 1, 5, 2, 6, 4, 3, 0}},
	} {
		checkOrder(t, c.seed, 3, c.three)
		checkOrder(t, c.seed, 5, c.five)
		checkOrder(t, c.seed, 8, c.eight)
	}
}

func TestOrderOfMany(t *testing.T) {
	checkOrder(t, 0, 64, []int{
		18, 15, 11, 26, 49, 54, 37, 32, 39, 14, 0, 46, 57, 17, 23, 5,
		43, 38, 31, 16, 55, 28, 61, 60, 8, 7, 48, 44, 35, 58, 2, 10,
		25, 62, 29, 3, 6, 47, 9, 51, 24, 27, 34, 45, 59, 63, 13, 21,
		1, 50, 42, 4, 33, 40, 30, 52, 20, 41, 56, 36, 22, 19, 12, 53,
	})
	checkOrder(t, math.MaxUint64, 63, []int{
		7, 37, 28, 43, 54, 41, 8, 0, 58, 49, 62, 20, 55, 47, 19, 24,
		34, 38, 1, 51, 61, 46, 60, 53, 35, 59, 21, 10, 22, 30, 16, 14,
		18, 57, 45, 29, 26, 33, 48, 32, 11, 4, 50, 9, 25, 31, 6, 39,
		40, 17, 36, 27, 52, 44, 56, 5, 42, 13, 3, 2, 12, 15, 23,
	})
	checkOrder(t, math.MaxUint64, 64, []int{
		7, 37, 28, 43, 54, 41, 8, 0, 58, 49, 62, 20, 55, 47, 19, 24,
		34, 38, 1, 51, 61, 46, 60, 53, 35, 59, 21, 10, 22, 30, 16, 14,
		18, 57, 45, 29, 26, 33, 48, 32, 11, 4, 50, 9, 25, 31, 6, 39,
		40, 17, 36, 27, 52, 44, 56, 5, 63, 13, 3, 2, 12, 15, 23, 42,
	})
}

func TestOrderOfNone(t *testing.T) {
	for _, seed := range seeds() {
		for _, n := range []int{0, -1, -2, -64, -65, -1 << 32, math.MinInt + 1, math.MinInt} {
			checkOrder(t, seed, n, nil)
		}
	}
}

func TestOrderOfTooMany(t *testing.T) {
	for _, seed := range seeds() {
		want := mix.Order(seed, 64)
		if len(want) != 64 {
			t.Errorf("Order(%#x, 64) has %d", seed, len(want))
		}
		for _, n := range []int{65, 66, 99, 128, 1 << 32, 1<<32 + 5, math.MaxInt - 1, math.MaxInt} {
			checkOrder(t, seed, n, want)
		}
	}
}

func TestEachNumberIsThereOnce(t *testing.T) {
	for _, seed := range seeds() {
		for n := 0; n <= 64; n++ {
			l := mix.Order(seed, n)
			slices.Sort(l)
			if !slices.Equal(l, upTo(n)) {
				t.Errorf("Order(%#x, %d), brought in order: %v", seed, n, l)
			}
		}
	}
}

// The same seed says the same order again, whatever was asked meanwhile, and whatever became of the list that was answered.
func TestSameOrderForSameSeed(t *testing.T) {
	for _, seed := range seeds() {
		for _, n := range []int{1, 2, 5, 63, 64, 65} {
			l := mix.Order(seed, n)
			kept := slices.Clone(l)
			clear(l)
			mix.Order(seed+1, n)
			mix.Order(seed, n-1)
			checkOrder(t, seed, n, kept)
		}
	}
}

func TestOrdersHangOnTheSeed(t *testing.T) {
	seen := map[[8]int]bool{}
	for seed := range uint64(200) {
		seen[[8]int(mix.Order(seed, 8))] = true
	}
	// Of 40320 orders so many seeds seldom say one twice.
	if len(seen) < 190 {
		t.Errorf("200 seeds say only %d orders", len(seen))
	}
}
