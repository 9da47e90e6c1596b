package mix_test

import (
	"math"
	"math/big"
	"slices"
	"testing"

	"forelock/mix"
)

// The tests of this file hold each call against the chapter's words, reckoned by whole numbers of any size.

// around is 2^64, where numbers of 64 bits go round.
func around() *big.Int {
	return new(big.Int).Lsh(big.NewInt(1), 64)
}

func whole(text string) *big.Int {
	n, ok := new(big.Int).SetString(text, 16)
	if !ok {
		panic(text)
	}
	return n
}

// rightXor is z xor'ed with itself, n bits to the right.
func rightXor(z *big.Int, n uint) *big.Int {
	return new(big.Int).Xor(z, new(big.Int).Rsh(z, n))
}

func timesRound(z *big.Int, factor string) *big.Int {
	p := new(big.Int).Mul(z, whole(factor))
	return p.Mod(p, around())
}

// wholeMix is the mix of x, which may be below 0.
func wholeMix(x *big.Int) *big.Int {
	z := new(big.Int).Add(x, whole("9E3779B97F4A7C15"))
	z.Mod(z, around())
	z = timesRound(rightXor(z, 30), "BF58476D1CE4E5B9")
	z = timesRound(rightXor(z, 27), "94D049BB133111EB")
	return rightXor(z, 31)
}

func wholeBucket(key *big.Int, n int) int {
	if n < 2 {
		return 0
	}
	return int(new(big.Int).Mod(wholeMix(key), big.NewInt(int64(n))).Int64())
}

func wholeOrder(seed uint64, n int) []int {
	l := upTo(min(n, 64))
	for i := len(l) - 1; i >= 1; i-- {
		key := new(big.Int).SetUint64(seed)
		j := wholeBucket(key.Add(key, big.NewInt(int64(i))), i+1)
		here, there := l[i], l[j]
		l[i], l[j] = there, here
	}
	return l
}

// keys are the edges of numbers with a sign, and some between them.
func keys() []int {
	return []int{
		math.MinInt, math.MinInt + 1, -1 << 32, -100, -64, -2, -1,
		0, 1, 2, 7, 63, 64, 65, 4096, 1 << 32, math.MaxInt - 1, math.MaxInt,
	}
}

func checkWholeMix(t *testing.T, x uint64) {
	t.Helper()
	checkMix(t, x, wholeMix(new(big.Int).SetUint64(x)).Uint64())
}

func TestMixOfEachBit(t *testing.T) {
	for i := range 64 {
		one := uint64(1) << i
		// What a mix adds is taken off too, so that each bit alone comes behind the sum as well.
		for _, x := range []uint64{one, one - 1, one + 1, ^one, -one, one - 0x9E3779B97F4A7C15, -one - 0x9E3779B97F4A7C15} {
			checkWholeMix(t, x)
		}
	}
}

func TestMixOfMany(t *testing.T) {
	x := uint64(20261118)
	for range 20000 {
		checkWholeMix(t, x)
		if t.Failed() {
			return
		}
		x = x*6364136223846793005 + 1442695040888963407
	}
}

// No two numbers have one mix: each step can be gone back.
func TestMixesAreApart(t *testing.T) {
	seen := map[uint64]uint64{}
	for x := range uint64(100000) {
		m := mix.Mix(x - 50000)
		if other, ok := seen[m]; ok {
			t.Fatalf("%#x and %#x have one mix: %#x", other, x-50000, m)
		}
		seen[m] = x - 50000
	}
}

func TestBucketOfManyKeys(t *testing.T) {
	sizes := []int{math.MinInt, -1, 0, 1, 2, 3, 4, 5, 10, 63, 64, 65, 4096, 1<<31 - 1, 1 << 32, 1<<62 + 1, math.MaxInt - 1, math.MaxInt}
	list := keys()
	key := 7
	for range 500 {
		list = append(list, key)
		key = key*6364136223846793005 + 1442695040888963407
	}
	for _, key := range list {
		for _, n := range sizes {
			checkBucket(t, key, n, wholeBucket(big.NewInt(int64(key)), n))
		}
	}
}

func TestOrderOfEachLength(t *testing.T) {
	for _, seed := range seeds() {
		for n := 0; n <= 70; n++ {
			checkOrder(t, seed, n, wholeOrder(seed, n))
		}
	}
}

// From the seed on from which seed plus the last place goes round.
func TestOrderWhereSeedAndPlaceGoRound(t *testing.T) {
	for back := range uint64(70) {
		seed := math.MaxUint64 - back
		for _, n := range []int{2, 3, 32, 63, 64, 65} {
			want := wholeOrder(seed, n)
			checkOrder(t, seed, n, want)
			if !slices.Equal(mix.Order(seed, n), mix.Order(seed, n)) {
				t.Errorf("Order(%#x, %d) says two orders", seed, n)
			}
		}
	}
}
