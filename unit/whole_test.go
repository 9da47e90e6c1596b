package unit_test

import (
	"math"
	"math/big"
	"slices"
	"testing"

	"forelock/unit"
)

// The tests of this file hold each call against the chapter's words, reckoned by whole numbers of any size.

func whole(n int) *big.Int {
	return big.NewInt(int64(n))
}

// brought is the numbers of l, those below least as that, those above top as that.
func brought(l []int, least, top int) []*big.Int {
	var all []*big.Int
	for _, n := range l {
		switch {
		case n < least:
			n = least
		case n > top:
			n = top
		}
		all = append(all, whole(n))
	}
	return all
}

func sum(l []*big.Int) *big.Int {
	s := new(big.Int)
	for _, n := range l {
		s.Add(s, n)
	}
	return s
}

// wholeWorst tries no k, but divides the greatest distance by the sum of weights, and rounds up.
func wholeWorst(ticks, weights []int) int {
	if len(ticks) != len(weights) || len(ticks) > 64 {
		return -1
	}
	t, w := brought(ticks, 0, wide), brought(weights, 1, 4096)
	worst := new(big.Int)
	for i := range t {
		has := new(big.Int).Mul(t[i], sum(w))
		distance := has.Sub(has, new(big.Int).Mul(w[i], sum(t)))
		if distance.Abs(distance).Cmp(worst) > 0 {
			worst = distance
		}
	}
	if worst.Sign() == 0 {
		return 0
	}
	k, left := new(big.Int).QuoRem(worst, sum(w), new(big.Int))
	if left.Sign() > 0 {
		k.Add(k, whole(1))
	}
	return int(k.Int64())
}

func wholeFair(ticks, weights []int, k int) bool {
	if len(ticks) != len(weights) || len(ticks) > 64 {
		return false
	}
	t, w := brought(ticks, 0, wide), brought(weights, 1, 4096)
	allowed := new(big.Int).Mul(brought([]int{k}, 0, wide)[0], sum(w))
	for i := range t {
		has := new(big.Int).Mul(t[i], sum(w))
		distance := has.Sub(has, new(big.Int).Mul(w[i], sum(t)))
		if distance.CmpAbs(allowed) > 0 {
			return false
		}
	}
	return true
}

// row answers numbers below n, the same ones each time.
func row(state uint64) func(int) int {
	return func(n int) int {
		state = state*6364136223846793005 + 1442695040888963407
		mixed := (state ^ state>>31) * 0x9E3779B97F4A7C15
		return int(mixed >> 1 % uint64(n))
	}
}

// anyNumber is a number of any length, also below 0, or one about those that something is brought to.
func anyNumber(next func(int) int) int {
	about := []int{0, 1, 8, 16, 32, 4096, wide, math.MaxInt - 3, math.MinInt + 3}
	if next(3) == 0 {
		return about[next(len(about))] + next(7) - 3
	}
	n := next(math.MaxInt) >> next(63)
	if next(4) == 0 {
		return -n
	}
	return n
}

// anyWeights is weights that are small, or alike, or any numbers.
func anyWeights(next func(int) int, count int) []int {
	kind, one := next(4), 1+next(4096)
	var l []int
	for range count {
		switch kind {
		case 0:
			l = append(l, 1+next(16))
		case 1:
			l = append(l, 1+next(4096))
		case 2:
			l = append(l, one)
		default:
			l = append(l, anyNumber(next))
		}
	}
	return l
}

// anyTicks is as many ticks as weights: about as those say, or small, or any numbers, or just one has some.
func anyTicks(next func(int) int, weights []int) []int {
	kind, rounds := next(4), next(1000)
	var l []int
	for _, w := range weights {
		switch kind {
		case 0:
			l = append(l, min(max(w, 1), 4096)*rounds+next(5)-2)
		case 1:
			l = append(l, next(20))
		case 2:
			l = append(l, anyNumber(next))
		default:
			l = append(l, 0)
		}
	}
	if kind == 3 && len(l) > 0 {
		l[next(len(l))] = anyNumber(next)
	}
	return l
}

// checkWhole asks Worst, and Fair with the ks about it, and with any k.
func checkWhole(t *testing.T, ticks, weights []int, k int) {
	t.Helper()
	want := wholeWorst(ticks, weights)
	checkWorst(t, ticks, weights, want)
	for _, k := range []int{k, want, want - 1, want + 1} {
		checkFair(t, ticks, weights, k, wholeFair(ticks, weights, k))
	}
	// These two are held against each other, too, and not against an answer alone.
	worst := unit.Worst(ticks, weights)
	if worst >= 0 && worst <= wide && !unit.Fair(ticks, weights, worst) {
		t.Errorf("with %d, the worst one, %v by %v isn't fair", worst, ticks, weights)
	}
	if worst > 0 && worst <= wide && unit.Fair(ticks, weights, worst-1) {
		t.Errorf("with less than %d, the worst one, %v by %v is fair", worst, ticks, weights)
	}
}

func TestManyLists(t *testing.T) {
	next := row(20261120)
	seen := map[int]int{}
	for range 12000 {
		weights := anyWeights(next, next(5)*next(5)*next(5)+next(4))
		ticks := anyTicks(next, weights)
		if next(20) == 0 {
			ticks = ticks[:next(len(ticks)+1)]
		}
		checkWhole(t, ticks, weights, anyNumber(next))
		seen[min(unit.Worst(ticks, weights), 2)]++
		if unit.Worst(ticks, weights) > wide {
			seen[wide]++
		}
		if t.Failed() {
			t.FailNow()
		}
	}
	for _, worst := range []int{-1, 0, 1, 2, wide} {
		if seen[worst] < 50 {
			t.Errorf("too few of one answer: %v", seen)
		}
	}
}

// shorts is each list of up to most numbers from 0 up to top.
func shorts(most, top int) [][]int {
	all := [][]int{nil}
	for from := 0; len(all[from]) < most; from++ {
		for n := range top + 1 {
			all = append(all, append(slices.Clone(all[from]), n))
		}
	}
	return all
}

// Each short list of ticks by each of weights, also of unlike lengths.
func TestShortLists(t *testing.T) {
	for _, ticks := range shorts(3, 4) {
		for _, weights := range shorts(3, 4) {
			want := wholeWorst(ticks, weights)
			if got := unit.Worst(ticks, weights); got != want {
				t.Fatalf("Worst(%v, %v): %d; want %d", ticks, weights, got, want)
			}
			for k := -1; k < 6; k++ {
				checkFair(t, ticks, weights, k, wholeFair(ticks, weights, k))
			}
		}
	}
}

// Shares hang on how weights stand to each other alone.
func TestWorstOfWeightsTimesOneNumber(t *testing.T) {
	next := row(15)
	for range 2000 {
		var weights, more []int
		by := 1 + next(256)
		for range 1 + next(8) {
			w := 1 + next(16)
			weights, more = append(weights, w), append(more, w*by)
		}
		ticks := anyTicks(next, weights)
		if one, other := unit.Worst(ticks, weights), unit.Worst(ticks, more); one != other {
			t.Fatalf("Worst of %v by %v: %d; by %v: %d", ticks, weights, one, more, other)
		}
	}
}

func wholeClamp(v, floor, reach uint64) uint64 {
	n, low := new(big.Int).SetUint64(v), new(big.Int).SetUint64(floor)
	high := new(big.Int).Add(low, new(big.Int).SetUint64(reach))
	switch {
	case n.Cmp(low) < 0:
		n = low
	case n.Cmp(high) > 0:
		n = high
	}
	return n.Uint64()
}

func TestClampAtEdges(t *testing.T) {
	l := []uint64{0, 1, 2, 3, 4, 1 << 28, 1 << 40, 1<<43 - 1, 1 << 43, half - 2, half - 1, half, half + 1, half + 2, most - 4, most - 3, most - 2, most - 1, most}
	for _, v := range l {
		for _, floor := range l {
			for _, reach := range l {
				checkClamp(t, v, floor, reach, wholeClamp(v, floor, reach))
			}
		}
	}
}

func TestClampOfMany(t *testing.T) {
	next := row(43)
	for range 20000 {
		floor, reach := uint64(next(math.MaxInt))<<next(64), uint64(next(math.MaxInt))>>next(63)
		// What lies about the ends is asked for as well as any number.
		for _, v := range []uint64{uint64(next(math.MaxInt)) << next(2), floor - 1, floor, floor + 1, floor + reach - 1, floor + reach, floor + reach + 1} {
			checkClamp(t, v, floor, reach, wholeClamp(v, floor, reach))
		}
	}
}

// What costs are of any numbers: each brought for itself, without what is left over of the unit.
func TestCostsOfMany(t *testing.T) {
	next := row(720720)
	part := func(unit, w int, times int) uint64 {
		return new(big.Int).Mul(new(big.Int).Quo(whole(unit), whole(w)), whole(times)).Uint64()
	}
	for range 20000 {
		w, a, b := anyNumber(next), anyNumber(next), anyNumber(next)
		task, party := min(max(w, 1), 4096), min(max(w, 1), 16)
		checkCore(t, w, part(coreUnit, task, 1))
		checkLock(t, w, part(lockUnit, party, 1))
		checkReach(t, w, a, part(coreUnit, task, min(max(a, 1), 8)))
		checkSlack(t, w, a, b, part(lockUnit, party, min(max(a, 1), 32)+min(max(b, 1), 32)))
	}
}
