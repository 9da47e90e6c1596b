package idset_test

import (
	"math"
	"slices"
	"testing"

	"forelock/idset"
)

// every is the set of all 64 numbers.
const every = uint64(math.MaxUint64)

// strangers are numbers that can't be in a set; many would name one that can be, if only some of their bits were looked at.
func strangers() []int {
	return []int{
		math.MinInt, math.MinInt + 1, math.MinInt + 5, math.MinInt + 63,
		-1 << 16, -256, -128, -65, -64, -63, -62, -3, -1,
		64, 65, 69, 95, 96, 127, 128, 255, 256, 261, 1 << 16, 1<<16 + 5, 1 << 30,
		math.MaxInt - 63, math.MaxInt - 1, math.MaxInt,
	}
}

func checkOf(t *testing.T, want uint64, l ...int) {
	t.Helper()
	kept := slices.Clone(l)
	if got := idset.Of(l...); got != want {
		t.Errorf("Of(%v): %#x; want %#x", kept, got, want)
	}
	if !slices.Equal(l, kept) {
		t.Errorf("Of(%v) changed the list: %v", kept, l)
	}
}

func checkHas(t *testing.T, s uint64, i int, want bool) {
	t.Helper()
	if got := idset.Has(s, i); got != want {
		t.Errorf("Has(%#x, %d): %v; want %v", s, i, got, want)
	}
}

func checkWith(t *testing.T, s uint64, i int, want uint64) {
	t.Helper()
	if got := idset.With(s, i); got != want {
		t.Errorf("With(%#x, %d): %#x; want %#x", s, i, got, want)
	}
}

func checkWithout(t *testing.T, s uint64, i int, want uint64) {
	t.Helper()
	if got := idset.Without(s, i); got != want {
		t.Errorf("Without(%#x, %d): %#x; want %#x", s, i, got, want)
	}
}

func checkWithin(t *testing.T, a, b uint64, want bool) {
	t.Helper()
	if got := idset.Within(a, b); got != want {
		t.Errorf("Within(%#x, %#x): %v; want %v", a, b, got, want)
	}
}

// checkNumbers holds all that is said of one set against the numbers that are to be in it, rising.
func checkNumbers(t *testing.T, s uint64, want ...int) {
	t.Helper()
	if got := idset.Len(s); got != len(want) {
		t.Errorf("Len(%#x): %d; want %d", s, got, len(want))
	}
	first := -1
	if len(want) > 0 {
		first = want[0]
	}
	if got := idset.First(s); got != first {
		t.Errorf("First(%#x): %d; want %d", s, got, first)
	}
	if got := slices.Collect(idset.All(s)); !slices.Equal(got, want) {
		t.Errorf("All(%#x): %v; want %v", s, got, want)
	}
	for i := range 64 {
		checkHas(t, s, i, slices.Contains(want, i))
	}
}

// all64 is each number that can be in a set, rising.
func all64() []int {
	var l []int
	for i := range 64 {
		l = append(l, i)
	}
	return l
}

func TestExample(t *testing.T) {
	checkOf(t, 0b1010, 3, 1, 99)
	checkNumbers(t, idset.Of(3, 1, 99), 1, 3)
}

func TestOf(t *testing.T) {
	checkOf(t, 0)
	checkOf(t, 0, []int{}...)
	checkOf(t, 1, 0)
	checkOf(t, 1<<5, 5)
	checkOf(t, 1<<63, 63)
	checkOf(t, 1|1<<31|1<<32|1<<63, 0, 31, 32, 63)
	// In no order.
	checkOf(t, 1|1<<31|1<<32|1<<63, 32, 0, 63, 31)
	checkOf(t, 0b10110, 4, 1, 2)
	// The same ones again and again.
	checkOf(t, 1<<7, 7, 7, 7, 7)
	checkOf(t, 1<<7|1<<2, 7, 2, 7, 7, 2)
	checkOf(t, 1|1<<63, 63, 0, 0, 63, 63, 0)
	checkOf(t, every, all64()...)
	backward := all64()
	slices.Reverse(backward)
	checkOf(t, every, append(backward, all64()...)...)
}

func TestOfStrangers(t *testing.T) {
	checkOf(t, 0, strangers()...)
	for _, i := range strangers() {
		checkOf(t, 0, i)
		checkOf(t, 0, i, i)
		// It counts nothing, wherever it stands, and the others count.
		checkOf(t, 1|1<<63, i, 0, 63)
		checkOf(t, 1|1<<63, 0, i, 63)
		checkOf(t, 1|1<<63, 0, 63, i)
	}
	checkOf(t, every, slices.Concat(strangers(), all64(), strangers())...)
}

func TestSetOfNone(t *testing.T) {
	checkNumbers(t, 0)
	for i := range 64 {
		checkWith(t, 0, i, uint64(1)<<i)
		checkWithout(t, 0, i, 0)
	}
}

func TestSetOfAll(t *testing.T) {
	checkNumbers(t, every, all64()...)
	for i := range 64 {
		checkWith(t, every, i, every)
		checkWithout(t, every, i, every-uint64(1)<<i)
	}
}

func TestEachNumberAlone(t *testing.T) {
	for i := range 64 {
		one := uint64(1) << i
		checkOf(t, one, i)
		checkNumbers(t, one, i)
		checkWith(t, one, i, one)
		checkWithout(t, one, i, 0)
		checkNumbers(t, every-one, slices.Delete(all64(), i, i+1)...)
		checkWith(t, every-one, i, every)
		checkWithout(t, every-one, i, every-one)
	}
}

func TestEachTwoNumbers(t *testing.T) {
	for i := range 64 {
		for j := range i {
			one, other := uint64(1)<<i, uint64(1)<<j
			checkOf(t, one+other, i, j)
			checkOf(t, one+other, j, i)
			checkNumbers(t, one+other, j, i)
			checkWith(t, one, j, one+other)
			checkWith(t, other, i, one+other)
			checkWithout(t, one+other, i, other)
			checkWithout(t, one+other, j, one)
			checkWithout(t, one, j, one)
			checkWithout(t, other, i, other)
		}
	}
}

func TestStrangersAreInNoSet(t *testing.T) {
	for _, i := range strangers() {
		for _, s := range []uint64{0, 1, 0b101010, 1 << 31, 1 << 32, 1 << 63, every - 1, every >> 1, every} {
			checkHas(t, s, i, false)
			checkWith(t, s, i, s)
			checkWithout(t, s, i, s)
		}
	}
}

func TestRun(t *testing.T) {
	s := idset.Of(31, 0, 63)
	checkNumbers(t, s, 0, 31, 63)
	s = idset.With(s, 32)
	checkNumbers(t, s, 0, 31, 32, 63)
	// Put in twice, it is in once.
	s = idset.With(s, 32)
	checkNumbers(t, s, 0, 31, 32, 63)
	s = idset.Without(s, 32)
	checkNumbers(t, s, 0, 31, 63)
	// Taken out, though it isn't in.
	s = idset.Without(s, 32)
	checkNumbers(t, s, 0, 31, 63)
	s = idset.Without(s, 0)
	checkNumbers(t, s, 31, 63)
	s = idset.With(s, 64)
	s = idset.Without(s, -1)
	checkNumbers(t, s, 31, 63)
	s = idset.Without(s, 63)
	checkNumbers(t, s, 31)
	s = idset.Without(s, 31)
	checkNumbers(t, s)
	s = idset.Without(s, 31)
	checkNumbers(t, s)
	s = idset.With(s, 0)
	checkNumbers(t, s, 0)
}

func TestWithin(t *testing.T) {
	sets := []uint64{0, 1, 0b110, 0b111, 1 << 31, 1 << 32, 1<<31 | 1<<32, 1 << 63, 1 | 1<<63, every >> 1, every - 1, every}
	for _, s := range sets {
		checkWithin(t, s, s, true)
		checkWithin(t, 0, s, true)
		checkWithin(t, s, every, true)
		checkWithin(t, s, 0, s == 0)
		checkWithin(t, every, s, s == every)
	}
	checkWithin(t, 0b101, 0b111, true)
	checkWithin(t, 0b111, 0b101, false)
	// As many, but others; and fewer, but others.
	checkWithin(t, 0b101, 0b110, false)
	checkWithin(t, 0b1, 0b110, false)
	checkWithin(t, 0b1000, 0b111, false)
	// A few in both aren't all.
	checkWithin(t, 0b1100, 0b0110, false)
	checkWithin(t, 1<<31|1<<32, 1|1<<31|1<<32|1<<63, true)
	checkWithin(t, 1<<31|1<<32, 1|1<<31|1<<63, false)
}

func TestWithinOfEachNumber(t *testing.T) {
	for i := range 64 {
		one := uint64(1) << i
		checkWithin(t, one, one, true)
		checkWithin(t, one, every, true)
		checkWithin(t, every, every-one, false)
		checkWithin(t, every-one, every, true)
		checkWithin(t, one, every-one, false)
		checkWithin(t, every-one, one, false)
		checkWithin(t, one, 0, false)
	}
}

func TestWithinOfSmallSets(t *testing.T) {
	for _, up := range []int{0, 29, 58} {
		for a := range uint64(1 << 6) {
			for b := range uint64(1 << 6) {
				want := true
				for i := range 6 {
					if a>>i&1 == 1 && b>>i&1 == 0 {
						want = false
					}
				}
				checkWithin(t, a<<up, b<<up, want)
			}
		}
	}
}
