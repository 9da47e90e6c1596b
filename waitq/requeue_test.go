package waitq_test

import (
	"math"
	"slices"
	"testing"

	"forelock/api"
	"forelock/waitq"
)

func TestRequeue(t *testing.T) {
	whos := []int{5, 3, 4, 1}
	overBuckets(t, func(t *testing.T, buckets int) {
		for _, c := range []struct {
			n     int
			there []int
			want  int
		}{
			// None.
			{math.MinInt, []int{8}, 0},
			{-1, []int{8}, 0},
			{0, []int{8}, 0},
			{0, nil, 0},
			// Fewer than wait, as many, and more: into a key that nobody waits for, and behind one who does.
			{1, nil, 1},
			{3, nil, 3},
			{4, nil, 4},
			{5, nil, 4},
			{math.MaxInt, nil, 4},
			{1, []int{8}, 1},
			{4, []int{8}, 4},
			{math.MaxInt, []int{8}, 4},
			// Room for fewer than are asked for, for as many, and for none.
			{3, []int{8, 7, 9}, 2},
			{math.MaxInt, []int{8, 7, 9}, 2},
			{2, []int{8, 7, 9}, 2},
			{1, []int{8, 7, 9}, 1},
			{4, []int{8, 7, 9, 2}, 1},
			{4, []int{8, 7, 9, 2, 6}, 0},
			{math.MaxInt, []int{8, 7, 9, 2, 6}, 0},
			{0, []int{8, 7, 9, 2, 6}, 0},
			{-1, []int{8, 7, 9, 2, 6}, 0},
		} {
			x := filled(t, buckets, 9, 5, append(line(7, whos...), line(8, c.there...)...)...)
			checkRequeue(t, x, 7, 8, c.n, c.want)
			left := line(7, whos[c.want:]...)
			if len(left) == 0 {
				checkKey(t, x, 7)
			}
			checkEmptied(t, x, append(line(8, slices.Concat(c.there, whos[:c.want])...), left...)...)
		}
	})
}

func TestRequeueToItself(t *testing.T) {
	overBuckets(t, func(t *testing.T, buckets int) {
		for _, each := range []int{3, 9} {
			x := filled(t, buckets, 9, each, line(7, 1, 2, 3)...)
			for _, n := range []int{math.MinInt, -1, 0, 1, 2, 3, 4, math.MaxInt} {
				checkRequeue(t, x, 7, 7, n, 0)
				checkAll(t, x, line(7, 1, 2, 3)...)
			}
			checkEmptied(t, x, line(7, 1, 2, 3)...)
		}
	})
}

// To be moved asks for no room in all.
func TestRequeueInAFullTable(t *testing.T) {
	overBuckets(t, func(t *testing.T, buckets int) {
		x := filled(t, buckets, 4, 3, append(line(7, 1, 2, 3), line(8, 4)...)...)
		checkRequeue(t, x, 7, 8, 9, 2)
		checkRequeue(t, x, 8, 9, 9, 3)
		checkRequeue(t, x, 7, 8, 9, 1)
		checkEmptied(t, x, append(line(9, 4, 1, 2), line(8, 3)...)...)
	})
}

func TestRequeueThereAndBack(t *testing.T) {
	overBuckets(t, func(t *testing.T, buckets int) {
		x := filled(t, buckets, 9, 9, append(line(-7, 1, 2, 3), line(math.MinInt, 4, 5)...)...)
		checkRequeue(t, x, -7, math.MinInt, 2, 2)
		checkRequeue(t, x, math.MinInt, -7, 3, 3)
		checkAll(t, x, append(line(-7, 3, 4, 5, 1), line(math.MinInt, 2)...)...)
		checkRequeue(t, x, math.MinInt, math.MaxInt, 1, 1)
		checkRequeue(t, x, -7, math.MaxInt, 2, 2)
		checkKey(t, x, math.MinInt)
		checkEmptied(t, x, append(line(-7, 5, 1), line(math.MaxInt, 2, 3, 4)...)...)
	})
}

// Who was requeued is found where it waits then: it is cancelled there, and woken there, and can't wait twice.
func TestRequeuedOnce(t *testing.T) {
	overBuckets(t, func(t *testing.T, buckets int) {
		x := filled(t, buckets, 9, 9, wait(1, 7, 5), wait(2, 7, 0), wait(3, 7, 6), wait(4, 8, 0))
		checkRequeue(t, x, 7, 8, 3, 3)
		checkWait(t, x, wait(1, 7, 0), api.ErrMet)
		checkCancel(t, x, wait(1, 8, 5))
		checkWake(t, x, 7, 9)
		checkWake(t, x, 8, 2, 4, 2)
		checkWait(t, x, wait(1, 7, 0), api.OK)
		checkExpire(t, x, 9, wait(3, 8, 6))
		checkEmptied(t, x, wait(1, 7, 0))
	})
}

// Who was requeued, even twice, expires at its time, and is told with the key that it waits for.
func TestRequeuedExpire(t *testing.T) {
	overBuckets(t, func(t *testing.T, buckets int) {
		x := filled(t, buckets, 9, 9, wait(1, 7, 5), wait(2, 7, 4), wait(3, 7, 6), wait(4, 8, 5))
		checkRequeue(t, x, 7, 8, 2, 2)
		checkRequeue(t, x, 8, 9, 2, 2)
		checkAll(t, x, wait(3, 7, 6), wait(2, 8, 4), wait(4, 9, 5), wait(1, 9, 5))
		checkExpire(t, x, 3)
		checkExpire(t, x, 5, wait(2, 8, 4), wait(1, 9, 5), wait(4, 9, 5))
		checkExpire(t, x, 6, wait(3, 7, 6))
		checkAll(t, x)
	})
}

func TestRequeueOfAll(t *testing.T) {
	for _, buckets := range []int{1, 2, 64} {
		x := waitq.New(buckets, api.MaxItems, api.MaxItems-1)
		checkWait(t, x, wait(0, 8, 0), api.OK)
		for who := 1; who < api.MaxItems; who++ {
			checkWait(t, x, wait(who, 7, 0), api.OK)
		}
		// All but the last one: for that one there is no room.
		checkRequeue(t, x, 7, 8, math.MaxInt, api.MaxItems-2)
		checkKey(t, x, 7, wait(api.MaxItems-1, 7, 0))
		who := 0
		for w := range x.Of(8) {
			if w != wait(who, 8, 0) {
				t.Fatalf("as number %d: %v", who, w)
			}
			who++
		}
		if who != api.MaxItems-1 {
			t.Errorf("%d wait for the key", who)
		}
	}
}
