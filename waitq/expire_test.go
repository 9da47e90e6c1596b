package waitq_test

import (
	"math"
	"slices"
	"testing"

	"forelock/api"
)

func TestExpire(t *testing.T) {
	l := []api.Wait{wait(3, 7, 10), wait(1, 8, 20), wait(2, 7, 30), wait(5, 9, 40), wait(4, 7, math.MaxUint64)}
	overBuckets(t, func(t *testing.T, buckets int) {
		for _, c := range []struct {
			now  uint64
			gone int
		}{
			// Ahead of all, at just the time of some, one less and one more, and behind all.
			{0, 0}, {1, 0}, {9, 0}, {10, 1}, {11, 1}, {19, 1}, {20, 2}, {21, 2}, {39, 3}, {40, 4}, {41, 4},
			{math.MaxInt64, 4}, {math.MaxInt64 + 1, 4}, {math.MaxUint64 - 1, 4}, {math.MaxUint64, 5},
		} {
			// They come in another order than the one in which their times are over.
			x := filled(t, buckets, 9, 9, l[4], wait(0, 7, 0), l[2], l[0], l[3], l[1])
			checkExpire(t, x, c.now, l[:c.gone]...)
			for _, w := range l[:c.gone] {
				checkGone(t, x, w.Who)
			}
			checkExpire(t, x, c.now)
			if x.Len() != 6-c.gone {
				t.Errorf("Expire(%d): %d wait on; want %d", c.now, x.Len(), 6-c.gone)
			}
			checkExpire(t, x, math.MaxUint64, l[c.gone:]...)
			checkEmptied(t, x, wait(0, 7, 0))
		}
	})
}

// Those of one time go by who they are, whatever they wait for, and whenever they came.
func TestExpireOfOneTime(t *testing.T) {
	l := []api.Wait{wait(9, 7, 4), wait(math.MinInt, 8, 5), wait(-9, 7, 5), wait(-1, 9, 5), wait(0, 7, 5), wait(1, 7, 5), wait(10, 8, 5), wait(math.MaxInt, 7, 5), wait(-10, 7, 6)}
	overBuckets(t, func(t *testing.T, buckets int) {
		for _, order := range [][]int{{0, 1, 2, 3, 4, 5, 6, 7, 8}, {8, 7, 6, 5, 4, 3, 2, 1, 0}, {5, 7, 2, 8, 0, 3, 6, 1, 4}} {
			x := filled(t, buckets, 9, 9)
			for _, i := range order {
				checkWait(t, x, l[i], api.OK)
			}
			checkExpire(t, x, 5, l[:8]...)
			checkEmptied(t, x, l[8])
		}
	})
}

func TestWithoutAnEnd(t *testing.T) {
	overBuckets(t, func(t *testing.T, buckets int) {
		x := filled(t, buckets, 9, 9, line(7, 3, 0, -1)...)
		for _, now := range []uint64{0, 1, math.MaxUint64} {
			checkExpire(t, x, now)
		}
		checkEmptied(t, x, line(7, 3, 0, -1)...)
	})
}

// The others wait on, in the order in which they came, and go by Wake, by Cancel, and by Expire later.
func TestExpireLeftEarly(t *testing.T) {
	overBuckets(t, func(t *testing.T, buckets int) {
		for n := 1; n <= 6; n++ {
			x := filled(t, buckets, 9, 9, wait(6, 8, 70), wait(5, 7, 50), wait(4, 8, 40), wait(3, 7, 30), wait(2, 8, 20), wait(1, 7, 10))
			due := []api.Wait{wait(1, 7, 10), wait(2, 8, 20), wait(3, 7, 30), wait(4, 8, 40), wait(5, 7, 50)}
			told := due[:min(n, 5)]
			if got := reached(x.Expire(60), n); !slices.Equal(got, told) {
				t.Errorf("Expire(60), left behind %d: %v; want %v", n, got, told)
			}
			left := []api.Wait{wait(6, 8, 70)}
			for _, w := range due[len(told):] {
				left = slices.Insert(left, 1, w)
			}
			checkAll(t, x, left...)
			checkEmptied(t, x, left...)
		}
	})
}

func TestLeftEarlyGoneByEachCall(t *testing.T) {
	overBuckets(t, func(t *testing.T, buckets int) {
		x := filled(t, buckets, 9, 9, wait(1, 7, 10), wait(2, 7, 20), wait(3, 8, 30), wait(4, 8, 40), wait(5, 7, 50), wait(6, 8, 60))
		if got := reached(x.Expire(99), 1); !slices.Equal(got, []api.Wait{wait(1, 7, 10)}) {
			t.Errorf("Expire(99), left behind 1: %v", got)
		}
		checkWake(t, x, 7, 1, 2)
		checkCancel(t, x, wait(4, 8, 40))
		checkWait(t, x, wait(2, 7, 45), api.OK)
		checkRequeue(t, x, 8, 7, 1, 1)
		if got := reached(x.Expire(99), 2); !slices.Equal(got, []api.Wait{wait(3, 7, 30), wait(2, 7, 45)}) {
			t.Errorf("Expire(99), left behind 2: %v", got)
		}
		checkExpire(t, x, 55, wait(5, 7, 50))
		checkEmptied(t, x, wait(6, 8, 60))
	})
}

// Gone over again a loop says what it didn't take away.
func TestExpireGoneOverAgain(t *testing.T) {
	overBuckets(t, func(t *testing.T, buckets int) {
		l := []api.Wait{wait(1, 7, 1), wait(2, 8, 2), wait(3, 7, 3), wait(4, 7, 4), wait(5, 8, 5)}
		x := filled(t, buckets, 9, 9, l...)
		loop := x.Expire(4)
		for _, c := range []struct{ n, from, to int }{{1, 0, 1}, {2, 1, 3}, {9, 3, 4}, {9, 4, 4}} {
			if got := reached(loop, c.n); !slices.Equal(got, l[c.from:c.to]) {
				t.Errorf("gone over again: %v; want %v", got, l[c.from:c.to])
			}
		}
		checkEmptied(t, x, l[4])
	})
}

// To ask for a loop takes nobody away: that comes when it is gone over, and of those who wait then.
func TestExpireThatIsNotGoneOver(t *testing.T) {
	overBuckets(t, func(t *testing.T, buckets int) {
		x := filled(t, buckets, 9, 9, wait(1, 7, 1), wait(2, 7, 2), wait(3, 7, 3))
		loop := x.Expire(3)
		checkAll(t, x, wait(1, 7, 1), wait(2, 7, 2), wait(3, 7, 3))
		checkWake(t, x, 7, 1, 1)
		checkWait(t, x, wait(4, 8, 2), api.OK)
		if got, want := reached(loop, 0), []api.Wait{wait(2, 7, 2), wait(4, 8, 2), wait(3, 7, 3)}; !slices.Equal(got, want) {
			t.Errorf("Expire(3), gone over behind changes: %v; want %v", got, want)
		}
		checkAll(t, x)
	})
}

// Who was told waits no more, and who wasn't waits, in each round of the loop.
func TestExpireTakesOneByOne(t *testing.T) {
	overBuckets(t, func(t *testing.T, buckets int) {
		l := []api.Wait{wait(1, 7, 1), wait(2, 8, 2), wait(3, 7, 3), wait(4, 9, 4)}
		x := filled(t, buckets, 9, 9, l...)
		n := 0
		for w := range x.Expire(3) {
			if w != l[n] {
				t.Errorf("round %d: %v", n, w)
			}
			n++
			checkGone(t, x, w.Who)
			checkAll(t, x, l[n:]...)
		}
		checkEmptied(t, x, l[3])
	})
}

func TestExpireWithinExpire(t *testing.T) {
	overBuckets(t, func(t *testing.T, buckets int) {
		x := filled(t, buckets, 9, 9, wait(1, 7, 1), wait(2, 8, 2), wait(3, 7, 3), wait(4, 7, 4), wait(5, 7, 5), wait(6, 7, 9))
		loop := x.Expire(5)
		var got []int
		for v := range loop {
			got = append(got, v.Who)
			for w := range loop {
				got = append(got, 10*w.Who)
				break
			}
		}
		// Each is told once.
		if want := []int{1, 20, 3, 40, 5}; !slices.Equal(got, want) {
			t.Errorf("a loop within the same loop: %v; want %v", got, want)
		}
		checkEmptied(t, x, wait(6, 7, 9))
	})
}

// Who expired waits again, behind the others; its earlier time is over once.
func TestExpiredOnce(t *testing.T) {
	overBuckets(t, func(t *testing.T, buckets int) {
		x := filled(t, buckets, 9, 9, wait(1, 7, 5), wait(2, 7, 0), wait(3, 7, 6))
		checkExpire(t, x, 5, wait(1, 7, 5))
		checkWait(t, x, wait(1, 7, 0), api.OK)
		checkExpire(t, x, 5)
		checkExpire(t, x, 6, wait(3, 7, 6))
		// A time that is over already is no wrong one.
		checkWait(t, x, wait(3, 7, 1), api.OK)
		checkExpire(t, x, 6, wait(3, 7, 1))
		checkEmptied(t, x, wait(2, 7, 0), wait(1, 7, 0))
	})
}
