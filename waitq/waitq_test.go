package waitq_test

import (
	"iter"
	"math"
	"slices"
	"strconv"
	"testing"

	"forelock/api"
	"forelock/mix"
	"forelock/waitq"
)

// wait is one who waits for a key up to some time.
func wait(who, key int, until uint64) api.Wait {
	return api.Wait{Who: who, Key: key, Until: until}
}

// line is those of these numbers, who wait for a key without an end.
func line(key int, whos ...int) []api.Wait {
	var l []api.Wait
	for _, who := range whos {
		l = append(l, wait(who, key, 0))
	}
	return l
}

// overBuckets runs a test over none, few and many buckets: the answers are the same.
func overBuckets(t *testing.T, run func(t *testing.T, buckets int)) {
	t.Helper()
	for _, buckets := range []int{math.MinInt, -1, 0, 1, 2, 3, 64, api.MaxItems, api.MaxItems + 1, math.MaxInt} {
		t.Run(strconv.Itoa(buckets), func(t *testing.T) { run(t, buckets) })
	}
}

// filled is a table in which these wait.
func filled(t *testing.T, buckets, most, each int, l ...api.Wait) *waitq.Table {
	t.Helper()
	x := waitq.New(buckets, most, each)
	for _, w := range l {
		checkWait(t, x, w, api.OK)
	}
	return x
}

// reached is what a loop says that is left behind n of its rounds; all of it, if n is 0.
func reached(loop iter.Seq[api.Wait], n int) []api.Wait {
	var l []api.Wait
	for w := range loop {
		l = append(l, w)
		if len(l) == n {
			break
		}
	}
	return l
}

func checkWait(t *testing.T, x *waitq.Table, w api.Wait, want api.Errno) {
	t.Helper()
	if err := x.Wait(w); err != want {
		t.Errorf("Wait(%v): error %d; want %d", w, err, want)
	}
}

func checkWake(t *testing.T, x *waitq.Table, key, n int, want ...int) {
	t.Helper()
	if got := x.Wake(key, n); !slices.Equal(got, want) {
		t.Errorf("Wake(%d, %d): %v; want %v", key, n, got, want)
	}
}

func checkCancel(t *testing.T, x *waitq.Table, w api.Wait) {
	t.Helper()
	if got, ok := x.Cancel(w.Who); got != w || !ok {
		t.Errorf("Cancel(%d): %v, %v; want %v", w.Who, got, ok, w)
	}
}

func checkRequeue(t *testing.T, x *waitq.Table, from, to, n, want int) {
	t.Helper()
	if got := x.Requeue(from, to, n); got != want {
		t.Errorf("Requeue(%d, %d, %d): %d; want %d", from, to, n, got, want)
	}
}

func checkExpire(t *testing.T, x *waitq.Table, now uint64, want ...api.Wait) {
	t.Helper()
	if got := reached(x.Expire(now), 0); !slices.Equal(got, want) {
		t.Errorf("Expire(%d): %v; want %v", now, got, want)
	}
}

// checkGone holds against nothing what is told of those who don't wait.
func checkGone(t *testing.T, x *waitq.Table, whos ...int) {
	t.Helper()
	for _, who := range whos {
		if w, ok := x.Who(who); w != (api.Wait{}) || ok {
			t.Errorf("Who(%d), who doesn't wait: %v, %v", who, w, ok)
		}
		if w, ok := x.Cancel(who); w != (api.Wait{}) || ok {
			t.Errorf("Cancel(%d), who doesn't wait: %v, %v", who, w, ok)
		}
	}
}

// checkKey holds what is told of a key against those who are to wait for it, in order.
func checkKey(t *testing.T, x *waitq.Table, key int, want ...api.Wait) {
	t.Helper()
	if n := x.Count(key); n != len(want) {
		t.Errorf("Count(%d): %d; want %d", key, n, len(want))
	}
	if got := reached(x.Of(key), 0); !slices.Equal(got, want) {
		t.Errorf("Of(%d): %v; want %v", key, got, want)
	}
}

// checkAll holds all that a table says without being changed against those who are to wait, of each key in order.
func checkAll(t *testing.T, x *waitq.Table, want ...api.Wait) {
	t.Helper()
	if x.Len() != len(want) {
		t.Errorf("Len: %d; want %d", x.Len(), len(want))
	}
	of := map[int][]api.Wait{}
	for _, w := range want {
		of[w.Key] = append(of[w.Key], w)
		if got, ok := x.Who(w.Who); got != w || !ok {
			t.Errorf("Who(%d): %v, %v; want %v", w.Who, got, ok, w)
		}
	}
	for key, l := range of {
		checkKey(t, x, key, l...)
	}
}

// checkEmptied wakes all who are to wait, one by one, of each key in order.
func checkEmptied(t *testing.T, x *waitq.Table, want ...api.Wait) {
	t.Helper()
	for i, w := range want {
		checkAll(t, x, want[i:]...)
		checkWake(t, x, w.Key, 1, w.Who)
		checkGone(t, x, w.Who)
	}
	for _, w := range want {
		checkKey(t, x, w.Key)
		checkWake(t, x, w.Key, 1)
	}
	checkAll(t, x)
	checkExpire(t, x, math.MaxUint64)
}

func TestExample(t *testing.T) {
	overBuckets(t, func(t *testing.T, buckets int) {
		x := filled(t, buckets, 8, 8, line(7, 1, 2, 3)...)
		checkCancel(t, x, wait(2, 7, 0))
		checkWake(t, x, 7, 9, 1, 3)
		checkAll(t, x)
	})
}

func TestRunOfSeveralKeys(t *testing.T) {
	overBuckets(t, func(t *testing.T, buckets int) {
		x := filled(t, buckets, 20, 10, wait(1, 7, 30), wait(2, 8, 0), wait(3, 7, 0), wait(4, 9, 20), wait(5, 7, 10), wait(6, 8, 40), wait(7, 9, 0))
		checkAll(t, x, wait(1, 7, 30), wait(3, 7, 0), wait(5, 7, 10), wait(2, 8, 0), wait(6, 8, 40), wait(4, 9, 20), wait(7, 9, 0))
		checkWake(t, x, 7, 1, 1)
		checkCancel(t, x, wait(2, 8, 0))
		checkRequeue(t, x, 9, 7, 1, 1)
		checkAll(t, x, wait(3, 7, 0), wait(5, 7, 10), wait(4, 7, 20), wait(6, 8, 40), wait(7, 9, 0))
		checkWait(t, x, wait(1, 9, 5), api.OK)
		checkExpire(t, x, 20, wait(1, 9, 5), wait(5, 7, 10), wait(4, 7, 20))
		checkAll(t, x, wait(3, 7, 0), wait(6, 8, 40), wait(7, 9, 0))
		checkRequeue(t, x, 8, 9, 5, 1)
		checkWake(t, x, 9, 5, 7, 6)
		checkEmptied(t, x, wait(3, 7, 0))
	})
}

// Keys that lie in one bucket, and one that lies in another, don't get into one another's way.
func TestKeysOfOneBucket(t *testing.T) {
	const buckets = 5
	var same []int
	other := 0
	for key := 1; len(same) < 3 || other == 0; key++ {
		if mix.Bucket(key, buckets) == 0 {
			same = append(same, key)
		} else {
			other = key
		}
	}
	a, b, c := same[0], same[1], same[2]
	x := filled(t, buckets, 20, 3, wait(1, a, 9), wait(2, b, 9), wait(3, c, 9), wait(4, other, 9), wait(5, c, 8), wait(6, b, 0), wait(7, a, 7), wait(8, b, 0))
	checkWait(t, x, wait(9, b, 0), api.ErrFull)
	checkWait(t, x, wait(9, a, 0), api.OK)
	checkAll(t, x, wait(1, a, 9), wait(7, a, 7), wait(9, a, 0), wait(2, b, 9), wait(6, b, 0), wait(8, b, 0), wait(3, c, 9), wait(5, c, 8), wait(4, other, 9))
	checkWake(t, x, b, 9, 2, 6, 8)
	checkKey(t, x, b)
	checkAll(t, x, wait(1, a, 9), wait(7, a, 7), wait(9, a, 0), wait(3, c, 9), wait(5, c, 8), wait(4, other, 9))
	checkRequeue(t, x, a, b, 2, 2)
	checkRequeue(t, x, c, a, 2, 2)
	checkAll(t, x, wait(9, a, 0), wait(3, a, 9), wait(5, a, 8), wait(1, b, 9), wait(7, b, 7), wait(4, other, 9))
	checkKey(t, x, c)
	checkExpire(t, x, 9, wait(7, b, 7), wait(5, a, 8), wait(1, b, 9), wait(3, a, 9), wait(4, other, 9))
	checkEmptied(t, x, wait(9, a, 0))
}

func TestTablesAreApart(t *testing.T) {
	a := filled(t, 2, 3, 3, wait(1, 7, 5), wait(2, 7, 0))
	b := filled(t, 2, 3, 3, wait(1, 7, 0), wait(3, 8, 5))
	checkWake(t, a, 7, 1, 1)
	checkCancel(t, b, wait(3, 8, 5))
	checkExpire(t, a, 9)
	checkExpire(t, b, 9)
	checkEmptied(t, a, wait(2, 7, 0))
	checkEmptied(t, b, wait(1, 7, 0))
}

// Who waits already is told so ahead of all else, and waits on as it did.
func TestMet(t *testing.T) {
	overBuckets(t, func(t *testing.T, buckets int) {
		x := filled(t, buckets, 3, 2, wait(1, 7, 9), wait(2, 7, 0))
		again := []api.Wait{wait(1, 7, 9), wait(1, 7, 0), wait(1, 8, 9), wait(1, 8, 3), wait(2, 7, 1), wait(2, 8, 2)}
		for _, w := range again {
			checkWait(t, x, w, api.ErrMet)
		}
		// Full in all too.
		checkWait(t, x, wait(3, 8, 0), api.OK)
		for _, w := range append(again, wait(3, 8, 0), wait(3, 7, 4), wait(3, 9, 4)) {
			checkWait(t, x, w, api.ErrMet)
		}
		checkExpire(t, x, 8)
		checkAll(t, x, wait(1, 7, 9), wait(2, 7, 0), wait(3, 8, 0))
		checkExpire(t, x, math.MaxUint64, wait(1, 7, 9))
		checkEmptied(t, x, wait(2, 7, 0), wait(3, 8, 0))
	})
}

func TestMostAndEachAreBroughtToTheirRange(t *testing.T) {
	for _, c := range []struct{ n, want int }{
		{math.MinInt, 0},
		{-1, 0},
		{0, 0},
		{1, 1},
		{17, 17},
		{api.MaxItems - 1, api.MaxItems - 1},
		{api.MaxItems, api.MaxItems},
		{api.MaxItems + 1, api.MaxItems},
		{math.MaxInt, api.MaxItems},
	} {
		for _, buckets := range []int{1, 64} {
			// Over several keys it is most that is reached; for one key it is each, or both at once.
			checkRoom(t, waitq.New(buckets, c.n, math.MaxInt), 3, c.want)
			checkRoom(t, waitq.New(buckets, math.MaxInt, c.n), 1, c.want)
			checkRoom(t, waitq.New(buckets, c.n, c.n), 1, c.want)
		}
	}
}

// checkRoom fills a table, up to rising times, for so many keys in turn, and holds against want how many there is room for.
func checkRoom(t *testing.T, x *waitq.Table, keys, want int) {
	t.Helper()
	var l []api.Wait
	for who := range want {
		l = append(l, wait(who, who%keys, uint64(who+1)))
		checkWait(t, x, l[who], api.OK)
	}
	checkWait(t, x, wait(want, want%keys, 1), api.ErrFull)
	if x.Len() != want {
		t.Errorf("filled: %d; want %d", x.Len(), want)
	}
	for i, who := range x.Wake(0, want/6) {
		if who != i*keys || l[i*keys].Until == 0 {
			t.Fatalf("woken as number %d: %d", i, who)
		}
		l[i*keys].Until = 0
	}
	l = slices.DeleteFunc(l, func(w api.Wait) bool { return w.Until == 0 })
	if len(l) != want-want/6 || x.Len() != len(l) {
		t.Errorf("of %d %d were woken; %d wait on", want, want-len(l), x.Len())
	}
	if got := reached(x.Expire(math.MaxUint64), 0); !slices.Equal(got, l) || x.Len() != 0 {
		t.Errorf("of %d, and %d woken, %d expired; %d wait on", want, want-len(l), len(got), x.Len())
	}
}

// As many keys as there may be who wait, one for each.
func TestManyKeys(t *testing.T) {
	for _, buckets := range []int{1, 2, api.MaxItems} {
		x := waitq.New(buckets, api.MaxItems, 1)
		for i := range api.MaxItems {
			checkWait(t, x, wait(-i, 3*i, 0), api.OK)
		}
		checkWait(t, x, wait(1, -1, 0), api.ErrFull)
		for i := range api.MaxItems {
			checkKey(t, x, 3*i, wait(-i, 3*i, 0))
		}
		for i := range api.MaxItems {
			checkWake(t, x, 3*i, 2, -i)
		}
		checkAll(t, x)
	}
}

func TestNoRoom(t *testing.T) {
	overBuckets(t, func(t *testing.T, buckets int) {
		for _, c := range []struct{ most, each int }{{0, 0}, {0, 5}, {5, 0}, {-1, 5}, {5, -1}, {math.MinInt, math.MinInt}} {
			x := waitq.New(buckets, c.most, c.each)
			for _, w := range []api.Wait{wait(1, 7, 0), wait(0, 0, 0), wait(-1, -7, 9)} {
				checkWait(t, x, w, api.ErrFull)
			}
			checkNothingThere(t, x)
		}
	})
}

func TestRoomForOne(t *testing.T) {
	overBuckets(t, func(t *testing.T, buckets int) {
		x := filled(t, buckets, 1, 1, wait(1, 7, 0))
		checkWait(t, x, wait(2, 7, 0), api.ErrFull)
		checkWait(t, x, wait(2, 8, 0), api.ErrFull)
		checkWait(t, x, wait(1, 8, 0), api.ErrMet)
		checkRequeue(t, x, 7, 8, 1, 1)
		checkEmptied(t, x, wait(1, 8, 0))
		checkWait(t, x, wait(2, 8, 4), api.OK)
		checkWait(t, x, wait(1, 8, 0), api.ErrFull)
		checkEmptied(t, x, wait(2, 8, 4))
	})
}

// Where each call is that makes room for one more in all.
func TestFullAndThenRoomAgain(t *testing.T) {
	overBuckets(t, func(t *testing.T, buckets int) {
		x := filled(t, buckets, 3, 3, wait(1, 7, 0), wait(2, 8, 0), wait(3, 9, 5))
		full := func() {
			t.Helper()
			for _, key := range []int{7, 8, 9, 10} {
				checkWait(t, x, wait(4, key, 1), api.ErrFull)
			}
			checkGone(t, x, 4)
			// Of who was refused nothing is kept, not even the time.
			checkExpire(t, x, 4)
		}
		full()
		// To be moved makes no room in all, nor does what is refused, or says nothing.
		checkRequeue(t, x, 7, 8, 1, 1)
		checkWake(t, x, 7, 9)
		checkWake(t, x, 8, 0)
		full()
		checkWake(t, x, 8, 1, 2)
		checkWait(t, x, wait(2, 9, 0), api.OK)
		full()
		checkCancel(t, x, wait(1, 8, 0))
		checkWait(t, x, wait(1, 7, 0), api.OK)
		full()
		checkExpire(t, x, 5, wait(3, 9, 5))
		checkWait(t, x, wait(3, 7, 0), api.OK)
		full()
		checkEmptied(t, x, wait(2, 9, 0), wait(1, 7, 0), wait(3, 7, 0))
	})
}

// Where each call is that makes room for one more for a key.
func TestFullForAKeyAndThenRoomAgain(t *testing.T) {
	overBuckets(t, func(t *testing.T, buckets int) {
		x := filled(t, buckets, 20, 3, wait(1, 7, 0), wait(2, 7, 0), wait(3, 7, 0), wait(9, 8, 0))
		full := func() {
			t.Helper()
			checkWait(t, x, wait(50, 7, 1), api.ErrFull)
			checkRequeue(t, x, 8, 7, 1, 0)
			checkGone(t, x, 50)
			checkExpire(t, x, 4)
		}
		full()
		checkWake(t, x, 7, 1, 1)
		checkWait(t, x, wait(4, 7, 5), api.OK)
		full()
		checkCancel(t, x, wait(3, 7, 0))
		checkWait(t, x, wait(5, 7, 0), api.OK)
		full()
		checkRequeue(t, x, 7, 8, 1, 1)
		checkWait(t, x, wait(6, 7, 0), api.OK)
		full()
		checkExpire(t, x, 5, wait(4, 7, 5))
		checkWait(t, x, wait(7, 7, 0), api.OK)
		full()
		checkWait(t, x, wait(50, 8, 0), api.OK)
		checkWait(t, x, wait(51, 8, 0), api.ErrFull)
		checkEmptied(t, x, wait(5, 7, 0), wait(6, 7, 0), wait(7, 7, 0), wait(9, 8, 0), wait(2, 8, 0), wait(50, 8, 0))
	})
}

func TestWake(t *testing.T) {
	overBuckets(t, func(t *testing.T, buckets int) {
		whos := []int{5, 3, 4, 1}
		for _, c := range []struct{ n, want int }{
			{math.MinInt, 0}, {-1, 0}, {0, 0}, {1, 1}, {2, 2}, {3, 3}, {4, 4}, {5, 4}, {math.MaxInt, 4},
		} {
			x := filled(t, buckets, 9, 9, append(line(7, whos...), line(8, 2, 9)...)...)
			checkWake(t, x, 7, c.n, whos[:c.want]...)
			checkGone(t, x, whos[:c.want]...)
			checkEmptied(t, x, append(line(7, whos[c.want:]...), line(8, 2, 9)...)...)
		}
	})
}

// Who was woken doesn't expire: neither as it waited, nor when it waits again.
func TestWokenOnce(t *testing.T) {
	overBuckets(t, func(t *testing.T, buckets int) {
		x := filled(t, buckets, 9, 9, wait(1, 7, 5), wait(2, 7, 5), wait(3, 7, 5))
		checkWake(t, x, 7, 2, 1, 2)
		checkWait(t, x, wait(1, 7, 0), api.OK)
		checkWait(t, x, wait(2, 7, 8), api.OK)
		checkAll(t, x, wait(3, 7, 5), wait(1, 7, 0), wait(2, 7, 8))
		checkExpire(t, x, 7, wait(3, 7, 5))
		checkExpire(t, x, 8, wait(2, 7, 8))
		checkEmptied(t, x, wait(1, 7, 0))
	})
}

// What is answered is the caller's own.
func TestWhatWakeAnswersIsApart(t *testing.T) {
	x := filled(t, 3, 9, 9, line(7, 1, 2, 3, 4, 5)...)
	a := x.Wake(7, 2)
	b := x.Wake(7, 2)
	a[0], a[1] = 70, 80
	_ = append(a, 90)
	if !slices.Equal(b, []int{3, 4}) {
		t.Errorf("Wake, behind a change of what another Wake answered: %v", b)
	}
	checkEmptied(t, x, line(7, 5)...)
}

func TestCancelOfEach(t *testing.T) {
	overBuckets(t, func(t *testing.T, buckets int) {
		var l []api.Wait
		for i := range 7 {
			l = append(l, wait(10*i, 7, uint64(i%3)*20))
		}
		for at, w := range l {
			x := filled(t, buckets, 9, 9, append(l, wait(5, 8, 0))...)
			others := slices.Concat(l[:at], l[at+1:])
			checkCancel(t, x, w)
			checkGone(t, x, w.Who)
			checkAll(t, x, append(others, wait(5, 8, 0))...)
			// It waits again, behind the others, and up to another time.
			checkWait(t, x, wait(w.Who, 7, 99), api.OK)
			checkEmptied(t, x, append(others, wait(w.Who, 7, 99), wait(5, 8, 0))...)
		}
	})
}

// Who was cancelled doesn't expire: neither as it waited, nor when it waits again.
func TestCancelledOnce(t *testing.T) {
	overBuckets(t, func(t *testing.T, buckets int) {
		x := filled(t, buckets, 9, 9, wait(1, 7, 5), wait(2, 7, 5), wait(3, 8, 5))
		checkCancel(t, x, wait(1, 7, 5))
		checkCancel(t, x, wait(3, 8, 5))
		checkWait(t, x, wait(3, 7, 0), api.OK)
		checkExpire(t, x, 9, wait(2, 7, 5))
		checkGone(t, x, 1, 2)
		checkEmptied(t, x, wait(3, 7, 0))
	})
}

// Of who doesn't wait nothing is told, and nothing is changed by asking.
func TestWhoDoesNotWait(t *testing.T) {
	overBuckets(t, func(t *testing.T, buckets int) {
		x := filled(t, buckets, 9, 9, wait(1, 7, 0), wait(2, 7, 0), wait(3, 7, 4), wait(4, 8, 0), wait(5, 8, 0))
		checkWake(t, x, 7, 1, 1)
		checkExpire(t, x, 4, wait(3, 7, 4))
		checkCancel(t, x, wait(4, 8, 0))
		// Woken, expired, cancelled; never there; of the numbers of the keys.
		checkGone(t, x, 1, 3, 4, 6, 0, -1, -2, 7, 8, math.MinInt, math.MaxInt)
		checkEmptied(t, x, wait(2, 7, 0), wait(5, 8, 0))
	})
}

// For a key that nobody waits for nothing is told, and nothing is changed by asking.
func TestKeysThatNobodyWaitsFor(t *testing.T) {
	overBuckets(t, func(t *testing.T, buckets int) {
		x := filled(t, buckets, 9, 9, wait(1, 7, 0), wait(2, 8, 0))
		checkWake(t, x, 8, 1, 2)
		for _, key := range []int{8, 1, 2, 0, -7, 6, math.MinInt, math.MaxInt} {
			checkKey(t, x, key)
			checkWake(t, x, key, math.MaxInt)
			checkRequeue(t, x, key, 7, 9, 0)
			checkRequeue(t, x, key, key, 9, 0)
			checkAll(t, x, wait(1, 7, 0))
		}
		checkEmptied(t, x, wait(1, 7, 0))
	})
}

// Any numbers may be those of who waits, and of keys: each of both, in turn.
func TestAnyNumbers(t *testing.T) {
	numbers := []int{0, -1, 1, math.MinInt, math.MaxInt, math.MinInt + 1, math.MaxInt - 1, api.MaxItems, -api.MaxItems}
	overBuckets(t, func(t *testing.T, buckets int) {
		for shift := range numbers {
			var apart, together []api.Wait
			for i, who := range numbers {
				apart = append(apart, wait(who, numbers[(i+shift)%len(numbers)], uint64(i)))
				together = append(together, wait(who, numbers[shift], uint64(i)))
			}
			checkEmptied(t, filled(t, buckets, 9, 1, apart...), apart...)
			checkEmptied(t, filled(t, buckets, 9, 9, together...), together...)
			x := filled(t, buckets, 9, 9, apart...)
			for _, w := range apart {
				checkCancel(t, x, w)
				checkKey(t, x, w.Key)
			}
			checkAll(t, x)
		}
	})
}

func TestOfLeftEarlyAndGoneOverAgain(t *testing.T) {
	overBuckets(t, func(t *testing.T, buckets int) {
		want := []api.Wait{wait(5, 7, 0), wait(3, 7, 2), wait(8, 7, 0), wait(1, 7, 1)}
		x := filled(t, buckets, 9, 9, append(want, wait(2, 8, 0))...)
		loop := x.Of(7)
		for _, n := range []int{1, 3, 2, 1, 4, 0} {
			told := want
			if n > 0 {
				told = want[:n]
			}
			if got := reached(loop, n); !slices.Equal(got, told) {
				t.Errorf("Of(7), left behind %d: %v; want %v", n, got, told)
			}
		}
		// To go over those who wait takes nobody away.
		checkEmptied(t, x, append(want, wait(2, 8, 0))...)
	})
}

// What a loop says is what was there when it was asked for.
func TestOfKeepsWhatItGoesOver(t *testing.T) {
	overBuckets(t, func(t *testing.T, buckets int) {
		want := []api.Wait{wait(5, 7, 0), wait(3, 7, 2), wait(8, 7, 0)}
		x := filled(t, buckets, 9, 9, want...)
		loop, none := x.Of(7), x.Of(8)
		checkRequeue(t, x, 7, 8, 1, 1)
		checkCancel(t, x, wait(8, 7, 0))
		checkWait(t, x, wait(9, 7, 0), api.OK)
		for range 2 {
			if got := reached(loop, 0); !slices.Equal(got, want) {
				t.Errorf("Of(7), gone over behind changes: %v; want %v", got, want)
			}
			if got := reached(none, 0); len(got) != 0 {
				t.Errorf("Of(8), asked for when nobody waited: %v", got)
			}
		}
		checkEmptied(t, x, wait(3, 7, 2), wait(9, 7, 0), wait(5, 8, 0))
	})
}

func TestLoopWithinLoop(t *testing.T) {
	x := filled(t, 2, 9, 9, line(7, 1, 2, 3)...)
	loop := x.Of(7)
	var got []int
	for v := range loop {
		for w := range loop {
			got = append(got, 10*v.Who+w.Who)
		}
	}
	if want := []int{11, 12, 13, 21, 22, 23, 31, 32, 33}; !slices.Equal(got, want) {
		t.Errorf("a loop within the same loop: %v; want %v", got, want)
	}
}

// checkNothingThere holds against nothing all that is told of a table into which nobody gets.
func checkNothingThere(t *testing.T, x *waitq.Table) {
	t.Helper()
	numbers := []int{math.MinInt, -1, 0, 1, 7, math.MaxInt}
	for _, key := range numbers {
		checkKey(t, x, key)
		checkGone(t, x, key)
		for _, n := range numbers {
			checkWake(t, x, key, n)
			checkRequeue(t, x, key, 8, n, 0)
			checkRequeue(t, x, 8, key, n, 0)
			checkRequeue(t, x, key, key, n, 0)
		}
		if x.Of(key) == nil {
			t.Errorf("Of(%d) is nil", key)
		}
	}
	for _, now := range []uint64{0, 1, 9, math.MaxUint64} {
		checkExpire(t, x, now)
		if x.Expire(now) == nil {
			t.Errorf("Expire(%d) is nil", now)
		}
	}
	checkAll(t, x)
}

func TestNil(t *testing.T) {
	var x *waitq.Table
	for _, w := range []api.Wait{wait(1, 7, 0), wait(0, 0, 0), wait(-1, -7, 9)} {
		checkWait(t, x, w, api.ErrArg)
	}
	checkNothingThere(t, x)
}

// A table that New didn't make has room for nobody.
func TestZeroTable(t *testing.T) {
	x := new(waitq.Table)
	for _, w := range []api.Wait{wait(1, 7, 0), wait(0, 0, 0), wait(-1, -7, 9)} {
		checkWait(t, x, w, api.ErrFull)
	}
	checkNothingThere(t, x)
}

func TestNobodyWaitsInANewTable(t *testing.T) {
	overBuckets(t, func(t *testing.T, buckets int) {
		checkNothingThere(t, waitq.New(buckets, 9, 9))
	})
}
