package mix_test

import (
	"math"
	"testing"

	"forelock/mix"
)

func checkMix(t *testing.T, x, want uint64) {
	t.Helper()
	if got := mix.Mix(x); got != want {
		t.Errorf("Mix(%#x): %#x; want %#x", x, got, want)
	}
}

func checkBucket(t *testing.T, key, n, want int) {
	t.Helper()
	if got := mix.Bucket(key, n); got != want {
		t.Errorf("Bucket(%d, %d): %d; want %d", key, n, got, want)
	}
}

// The mixes of this table were reckoned apart from the program, by whole numbers of any size.
func TestMix(t *testing.T) {
	for _, c := range []struct{ x, want uint64 }{
		{0, 0xE220A8397B1DCDAF},
		{1, 0x910A2DEC89025CC1},
		{2, 0x975835DE1C9756CE},
		{3, 0x1D0B14E4DB018FED},
		{0xDEADBEEF, 0x4ADFB90F68C9EB9B},
		{1 << 32, 0xC42C5A1AA3820138},
		{math.MaxInt64, 0x2A67D7552E039EA7},
		{1 << 63, 0x481EC0A212A9F3DB},
		{1<<63 + 1, 0xDC29F439BCBDDA2A},
		{math.MaxUint64 - 1, 0xF3203E9039F4A821},
		{math.MaxUint64, 0xE4D971771B652C20},
		// Those that follow one another by what a mix adds.
		{0x9E3779B97F4A7C15, 0x6E789E6AA1B965F4},
		{0x3C6EF372FE94F82A, 0x06C45D188009454F},
	} {
		checkMix(t, c.x, c.want)
	}
}

// From 2^64 less what a mix adds on its sum goes round: what is behind the sum are 0, 1 and the like.
func TestMixWhoseSumGoesRound(t *testing.T) {
	const round = 0x61C8864680B583EB
	checkMix(t, round-1, 0xB4D055FCF2CBBD7B)
	checkMix(t, round, 0)
	checkMix(t, round+1, 0x5692161D100B05E5)
	checkMix(t, round+1<<63, 0x25C26EA579CEA98A)
}

// Behind a sum of 1 the first product is the first factor itself, and from there on each step is written out.
func TestMixStepByStep(t *testing.T) {
	z := uint64(0xBF58476D1CE4E5B9)
	z ^= 0x00000017EB08EDA3 // 27 bits to the right
	z *= 0x94D049BB133111EB
	z ^= z >> 31
	checkMix(t, 0x61C8864680B583EC, z)
}

func TestBucket(t *testing.T) {
	for _, c := range []struct{ key, n, want int }{
		{0, 2, 1}, {0, 3, 1}, {0, 7, 2}, {0, 10, 5}, {0, 64, 47},
		{1, 2, 1}, {1, 3, 2}, {1, 7, 2}, {1, 10, 5}, {1, 64, 1},
		{7, 2, 1}, {7, 3, 0}, {7, 7, 2}, {7, 10, 7}, {7, 64, 23},
		{-1, 2, 0}, {-1, 3, 2}, {-1, 7, 0}, {-1, 10, 6}, {-1, 64, 32},
		{-100, 2, 1}, {-100, 3, 0}, {-100, 7, 4}, {-100, 10, 5}, {-100, 64, 51},
		{math.MaxInt, 2, 1}, {math.MaxInt, 3, 0}, {math.MaxInt, 7, 2}, {math.MaxInt, 10, 9}, {math.MaxInt, 64, 39},
		{math.MinInt, 2, 1}, {math.MinInt, 3, 1}, {math.MinInt, 7, 6}, {math.MinInt, 10, 5}, {math.MinInt, 64, 27},
	} {
		checkBucket(t, c.key, c.n, c.want)
	}
}

func TestBucketOfGreatNumbers(t *testing.T) {
	for _, c := range []struct{ key, half, most int }{
		{0, 2065550767, 7070836379803831728},
		{1, 2298633409, 1227844342346046658},
		{7, 1496452567, 7191089600892374487},
		{-1, 459615264, 7266964230113668129},
		{-100, 3909709107, 6718734790923218228},
		{math.MaxInt, 771989159, 3055647633038352039},
		{math.MinInt, 313127899, 5196802822362493915},
	} {
		checkBucket(t, c.key, 1<<32, c.half)
		checkBucket(t, c.key, math.MaxInt, c.most)
	}
}

func TestBucketOfNoChoice(t *testing.T) {
	for _, n := range []int{1, 0, -1, -2, -3, -7, -64, -1 << 32, math.MinInt + 1, math.MinInt} {
		for _, key := range keys() {
			checkBucket(t, key, n, 0)
		}
	}
}

// Each bucket is one of those that there are, and none of them stays without a key.
func TestBucketsAreAllUsed(t *testing.T) {
	for n := 2; n <= 70; n++ {
		seen := make([]int, n)
		for key := -50 * n; key < 50*n; key++ {
			b := mix.Bucket(key, n)
			if b < 0 || b >= n {
				t.Fatalf("Bucket(%d, %d): %d", key, n, b)
			}
			seen[b]++
		}
		for b, times := range seen {
			if times < 40 {
				t.Errorf("of %d keys only %d fall into bucket %d of %d", 100*n, times, b, n)
			}
		}
	}
}
