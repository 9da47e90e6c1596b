package fifo_test

import (
	"math"
	"testing"

	"forelock/api"
	"forelock/fifo"
)

func checkPour[T any](t *testing.T, from, to *fifo.Queue[T], n, want int) {
	t.Helper()
	if got := fifo.Pour(from, to, n); got != want {
		t.Errorf("Pour of %d: %d; want %d", n, got, want)
	}
}

func TestPour(t *testing.T) {
	letters := []string{"a", "b", "c", "d"}
	for _, c := range []struct {
		n, room int
		want    int
	}{
		// Fewer than there are, as many, and more.
		{1, 9, 1},
		{3, 9, 3},
		{4, 9, 4},
		{5, 9, 4},
		{math.MaxInt, 9, 4},
		// None.
		{0, 9, 0},
		{-1, 9, 0},
		{math.MinInt, 9, 0},
		// Room for fewer than are asked, for as many, and for none.
		{4, 3, 3},
		{math.MaxInt, 1, 1},
		{2, 3, 2},
		{2, 2, 2},
		{4, 4, 4},
		{2, 0, 0},
		{0, 0, 0},
		{-1, 0, 0},
	} {
		from := filled(t, 4, letters...)
		to := fifo.New[string](c.room)
		checkPour(t, from, to, c.n, c.want)
		var poured, left []pair[string]
		for i, v := range letters {
			if i < c.want {
				poured = append(poured, pair[string]{i + 1, v})
			} else {
				left = append(left, pair[string]{i + 1, v})
			}
		}
		checkEmptied(t, from, left...)
		checkEmptied(t, to, poured...)
	}
}

// What is poured has tickets of the queue that it is poured to, behind all that ever were there.
func TestTicketsOfWhatIsPoured(t *testing.T) {
	from := filled(t, 5, "a", "b", "c", "d", "e")
	checkRemove(t, from, 2, "b", true)
	to := filled(t, 4, "v", "w", "x")
	checkRemove(t, to, 3, "x", true)
	checkPop(t, to, "v", true)
	checkPour(t, from, to, 2, 2)
	checkAll(t, from, pair[string]{4, "d"}, pair[string]{5, "e"})
	checkAll(t, to, pair[string]{2, "w"}, pair[string]{4, "a"}, pair[string]{5, "c"})
	checkPour(t, from, to, 2, 1)
	checkAll(t, from, pair[string]{5, "e"})
	checkPush(t, from, "f", 6, api.OK)
	checkPop(t, to, "w", true)
	checkPush(t, to, "y", 7, api.OK)
	checkPush(t, to, "z", 0, api.ErrFull)
	checkPour(t, from, to, 9, 0)
	checkEmptied(t, from, pair[string]{5, "e"}, pair[string]{6, "f"})
	checkEmptied(t, to, pair[string]{4, "a"}, pair[string]{5, "c"}, pair[string]{6, "d"}, pair[string]{7, "y"})
}

func TestPourThereAndBack(t *testing.T) {
	a, b := filled(t, 3, 0, 1, 2), fifo.New[int](2)
	checkPour(t, a, b, 3, 2)
	checkPour(t, b, a, 1, 1)
	checkEmptied(t, a, pair[int]{3, 2}, pair[int]{4, 0})
	checkEmptied(t, b, pair[int]{2, 1})
	checkPour(t, a, b, 1, 0)
	checkPour(t, b, a, 1, 0)
	checkPush(t, b, 7, 3, api.OK)
	checkPour(t, b, a, 1, 1)
	checkEmptied(t, a, pair[int]{5, 7})
}

func TestPourOfAll(t *testing.T) {
	from, to := fifo.New[int](api.MaxItems), fifo.New[int](api.MaxItems)
	for i := range api.MaxItems {
		checkPush(t, from, i, i+1, api.OK)
	}
	checkPop(t, from, 0, true)
	checkPush(t, to, -1, 1, api.OK)
	checkPour(t, from, to, api.MaxItems, api.MaxItems-1)
	checkEmptied(t, from)
	checkPush(t, to, 0, 0, api.ErrFull)
	for i := range api.MaxItems - 1 {
		checkGet(t, to, i+2, i+1, true)
	}
}

func TestPourToItself(t *testing.T) {
	q := filled(t, 3, "a", "b")
	for _, n := range []int{math.MinInt, -1, 0, 1, 2, 9} {
		checkPour(t, q, q, n, 0)
	}
	checkAll(t, q, pair[string]{1, "a"}, pair[string]{2, "b"})
	checkPush(t, q, "c", 3, api.OK)
}

func TestPourOfNil(t *testing.T) {
	var none *fifo.Queue[string]
	q := filled(t, 3, "a", "b")
	for _, n := range []int{math.MinInt, -1, 0, 1, 2, 9} {
		checkPour(t, none, q, n, 0)
		checkPour(t, q, none, n, 0)
		checkPour(t, none, none, n, 0)
	}
	checkAll(t, q, pair[string]{1, "a"}, pair[string]{2, "b"})
	checkPush(t, q, "c", 3, api.OK)
}

func TestPourOfAZeroQueue(t *testing.T) {
	q, zero := filled(t, 3, "a"), new(fifo.Queue[string])
	checkPour(t, zero, q, 2, 0)
	checkPour(t, q, zero, 2, 0)
	checkAll(t, q, pair[string]{1, "a"})
}
