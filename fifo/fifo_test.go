package fifo_test

import (
	"math"
	"slices"
	"testing"

	"forelock/api"
	"forelock/fifo"
)

type pair[T any] struct {
	ticket int
	value  T
}

func checkPush[T any](t *testing.T, q *fifo.Queue[T], v T, ticket int, err api.Errno) {
	t.Helper()
	if n, e := q.Push(v); n != ticket || e != err {
		t.Errorf("Push(%v): %d, error %d; want %d, %d", v, n, e, ticket, err)
	}
}

func checkPop[T comparable](t *testing.T, q *fifo.Queue[T], want T, ok bool) {
	t.Helper()
	if v, is := q.Pop(); v != want || is != ok {
		t.Errorf("Pop: %v, %v; want %v, %v", v, is, want, ok)
	}
}

func checkRemove[T comparable](t *testing.T, q *fifo.Queue[T], ticket int, want T, ok bool) {
	t.Helper()
	if v, is := q.Remove(ticket); v != want || is != ok {
		t.Errorf("Remove(%d): %v, %v; want %v, %v", ticket, v, is, want, ok)
	}
}

func checkGet[T comparable](t *testing.T, q *fifo.Queue[T], ticket int, want T, ok bool) {
	t.Helper()
	if v, is := q.Get(ticket); v != want || is != ok {
		t.Errorf("Get(%d): %v, %v; want %v, %v", ticket, v, is, want, ok)
	}
}

// checkAll holds all that a queue says without being changed against what it is to have, in order.
func checkAll[T comparable](t *testing.T, q *fifo.Queue[T], want ...pair[T]) {
	t.Helper()
	if q.Len() != len(want) {
		t.Errorf("Len: %d; want %d", q.Len(), len(want))
	}
	if got := reached(q.All(), 0); !slices.Equal(got, want) {
		t.Errorf("All: %v; want %v", got, want)
	}
	for _, p := range want {
		checkGet(t, q, p.ticket, p.value, true)
	}
}

// checkEmptied pops all of a queue, against what it is to have.
func checkEmptied[T comparable](t *testing.T, q *fifo.Queue[T], want ...pair[T]) {
	t.Helper()
	for i, p := range want {
		checkAll(t, q, want[i:]...)
		checkPop(t, q, p.value, true)
	}
	checkAll(t, q)
	var none T
	checkPop(t, q, none, false)
}

// filled is a queue with room for most, with these values, of the tickets 1, 2, and so on.
func filled[T any](t *testing.T, most int, l ...T) *fifo.Queue[T] {
	t.Helper()
	q := fifo.New[T](most)
	for i, v := range l {
		checkPush(t, q, v, i+1, api.OK)
	}
	return q
}

func TestExample(t *testing.T) {
	q := filled(t, 3, "a", "b", "c")
	checkRemove(t, q, 2, "b", true)
	checkPop(t, q, "a", true)
	checkPop(t, q, "c", true)
	checkPop(t, q, "", false)
}

func TestRunOfTexts(t *testing.T) {
	q := filled(t, 4, "one", "two", "three")
	checkAll(t, q, pair[string]{1, "one"}, pair[string]{2, "two"}, pair[string]{3, "three"})
	checkPop(t, q, "one", true)
	checkPush(t, q, "four", 4, api.OK)
	checkGet(t, q, 3, "three", true)
	checkRemove(t, q, 3, "three", true)
	checkAll(t, q, pair[string]{2, "two"}, pair[string]{4, "four"})
	checkPush(t, q, "two", 5, api.OK)
	checkEmptied(t, q, pair[string]{2, "two"}, pair[string]{4, "four"}, pair[string]{5, "two"})
}

// The zero value is a value as any other one.
func TestRunOfNumbers(t *testing.T) {
	q := filled(t, 5, 0, 7, 0, 0)
	checkAll(t, q, pair[int]{1, 0}, pair[int]{2, 7}, pair[int]{3, 0}, pair[int]{4, 0})
	checkRemove(t, q, 3, 0, true)
	checkRemove(t, q, 3, 0, false)
	checkGet(t, q, 3, 0, false)
	checkGet(t, q, 4, 0, true)
	checkPop(t, q, 0, true)
	checkGet(t, q, 1, 0, false)
	checkPush(t, q, 0, 5, api.OK)
	checkEmptied(t, q, pair[int]{2, 7}, pair[int]{4, 0}, pair[int]{5, 0})
}

func TestRunOfPointers(t *testing.T) {
	n := 7
	q := filled(t, 3, nil, &n, nil)
	checkRemove(t, q, 3, nil, true)
	checkEmptied(t, q, pair[*int]{1, nil}, pair[*int]{2, &n})
}

// What can't be compared may be held too.
func TestRunOfSlices(t *testing.T) {
	q := filled(t, 3, []int{2, 3}, nil, []int{4})
	if v, ok := q.Get(3); !slices.Equal(v, []int{4}) || !ok {
		t.Errorf("Get: %v, %v", v, ok)
	}
	if v, ok := q.Pop(); !slices.Equal(v, []int{2, 3}) || !ok {
		t.Errorf("Pop: %v, %v", v, ok)
	}
	if v, ok := q.Remove(2); v != nil || !ok {
		t.Errorf("Remove: %v, %v", v, ok)
	}
	if v, ok := q.Remove(3); !slices.Equal(v, []int{4}) || !ok {
		t.Errorf("Remove: %v, %v", v, ok)
	}
	if v, ok := q.Pop(); v != nil || ok {
		t.Errorf("Pop of none: %v, %v", v, ok)
	}
}

func TestQueuesAreApart(t *testing.T) {
	a, b := filled(t, 2, "a"), filled(t, 2, "b")
	checkPush(t, a, "c", 2, api.OK)
	checkPop(t, b, "b", true)
	checkEmptied(t, a, pair[string]{1, "a"}, pair[string]{2, "c"})
	checkPush(t, b, "d", 2, api.OK)
	checkEmptied(t, b, pair[string]{2, "d"})
}

func TestMostIsBroughtToItsRange(t *testing.T) {
	for _, c := range []struct{ most, want int }{
		{math.MinInt, 0},
		{-1, 0},
		{0, 0},
		{1, 1},
		{17, 17},
		{api.MaxItems - 1, api.MaxItems - 1},
		{api.MaxItems, api.MaxItems},
		{api.MaxItems + 1, api.MaxItems},
		{math.MaxInt, api.MaxItems},
	} {
		q := fifo.New[int](c.most)
		for i := range c.want {
			checkPush(t, q, -i, i+1, api.OK)
		}
		checkPush(t, q, 1, 0, api.ErrFull)
		if q.Len() != c.want {
			t.Errorf("New(%d), filled: %d there; want %d", c.most, q.Len(), c.want)
		}
		for i := range c.want {
			checkGet(t, q, i+1, -i, true)
			checkPop(t, q, -i, true)
		}
		checkEmptied(t, q)
	}
}

// checkNothingThere holds against nothing all that a queue says by which it gets no values.
func checkNothingThere(t *testing.T, q *fifo.Queue[string]) {
	t.Helper()
	checkEmptied(t, q)
	for _, ticket := range []int{math.MinInt, -1, 0, 1, 2, math.MaxInt} {
		checkGet(t, q, ticket, "", false)
		checkRemove(t, q, ticket, "", false)
	}
	if q.All() == nil {
		t.Error("All is nil")
	}
}

func TestNoRoom(t *testing.T) {
	for _, most := range []int{-1, 0} {
		q := fifo.New[string](most)
		checkPush(t, q, "a", 0, api.ErrFull)
		checkPush(t, q, "", 0, api.ErrFull)
		checkNothingThere(t, q)
	}
}

func TestRoomForOne(t *testing.T) {
	q := filled(t, 1, "a")
	checkPush(t, q, "x", 0, api.ErrFull)
	checkEmptied(t, q, pair[string]{1, "a"})
	checkPush(t, q, "b", 2, api.OK)
	checkPush(t, q, "x", 0, api.ErrFull)
	checkRemove(t, q, 2, "b", true)
	checkPush(t, q, "c", 3, api.OK)
	checkPush(t, q, "x", 0, api.ErrFull)
	checkEmptied(t, q, pair[string]{3, "c"})
}

func TestFullAndThenRoomAgain(t *testing.T) {
	q := filled(t, 3, "a", "b", "c")
	checkPush(t, q, "x", 0, api.ErrFull)
	// What is refused makes no room, nor does what only asks.
	checkRemove(t, q, 4, "", false)
	checkGet(t, q, 1, "a", true)
	checkPush(t, q, "x", 0, api.ErrFull)
	checkAll(t, q, pair[string]{1, "a"}, pair[string]{2, "b"}, pair[string]{3, "c"})
	checkRemove(t, q, 2, "b", true)
	checkPush(t, q, "d", 4, api.OK)
	checkPush(t, q, "x", 0, api.ErrFull)
	checkPop(t, q, "a", true)
	checkPush(t, q, "e", 5, api.OK)
	checkPush(t, q, "x", 0, api.ErrFull)
	checkEmptied(t, q, pair[string]{3, "c"}, pair[string]{4, "d"}, pair[string]{5, "e"})
}

func TestTicketsGoOnRising(t *testing.T) {
	q := filled(t, 2, "a", "b")
	for range 3 {
		// Of a push that was refused there is no ticket, not even one that is left out.
		checkPush(t, q, "x", 0, api.ErrFull)
	}
	checkRemove(t, q, 2, "b", true)
	checkPush(t, q, "c", 3, api.OK)
	checkPop(t, q, "a", true)
	checkPop(t, q, "c", true)
	checkPop(t, q, "", false)
	checkPush(t, q, "d", 4, api.OK)
	checkRemove(t, q, 4, "d", true)
	for ticket := 5; ticket < 100; ticket++ {
		checkPush(t, q, "again", ticket, api.OK)
		checkAll(t, q, pair[string]{ticket, "again"})
		checkPop(t, q, "again", true)
	}
}

func TestRemoveOfEach(t *testing.T) {
	for n := range 12 {
		values := make([]int, n)
		var l []pair[int]
		for i := range n {
			values[i] = 10*i + 5
			l = append(l, pair[int]{i + 1, values[i]})
		}
		for at, p := range l {
			q := filled(t, n, values...)
			others := slices.Concat(l[:at], l[at+1:])
			checkRemove(t, q, p.ticket, p.value, true)
			checkAll(t, q, others...)
			checkRemove(t, q, p.ticket, 0, false)
			checkGet(t, q, p.ticket, 0, false)
			checkPush(t, q, 1, n+1, api.OK)
			checkEmptied(t, q, append(others, pair[int]{n + 1, 1})...)
		}
	}
}

// Two that stand side by side, one of them at an end, or all that stand between.
func TestRemoveOfSeveral(t *testing.T) {
	a, b, c, d, e := pair[string]{1, "a"}, pair[string]{2, "b"}, pair[string]{3, "c"}, pair[string]{4, "d"}, pair[string]{5, "e"}
	for _, x := range []struct {
		gone []pair[string]
		left []pair[string]
	}{
		{[]pair[string]{a, b}, []pair[string]{c, d, e}},
		{[]pair[string]{b, a}, []pair[string]{c, d, e}},
		{[]pair[string]{d, e}, []pair[string]{a, b, c}},
		{[]pair[string]{e, d}, []pair[string]{a, b, c}},
		{[]pair[string]{b, c}, []pair[string]{a, d, e}},
		{[]pair[string]{c, d, b}, []pair[string]{a, e}},
		{[]pair[string]{b, d}, []pair[string]{a, c, e}},
		{[]pair[string]{a, e, c}, []pair[string]{b, d}},
		{[]pair[string]{e, a, d, b}, []pair[string]{c}},
		{[]pair[string]{c, a, b, e, d}, nil},
	} {
		q := filled(t, 5, "a", "b", "c", "d", "e")
		for _, p := range x.gone {
			checkRemove(t, q, p.ticket, p.value, true)
		}
		for _, p := range x.gone {
			checkGet(t, q, p.ticket, "", false)
		}
		checkPush(t, q, "f", 6, api.OK)
		checkEmptied(t, q, append(x.left, pair[string]{6, "f"})...)
	}
}

func TestTicketsThatAreNotThere(t *testing.T) {
	q := filled(t, 5, "a", "b", "c", "d")
	checkPop(t, q, "a", true)
	checkRemove(t, q, 3, "c", true)
	checkRemove(t, q, 4, "d", true)
	for _, ticket := range []int{math.MinInt, -2, -1, 0, 1, 3, 4, 5, 6, api.MaxItems, math.MaxInt} {
		checkGet(t, q, ticket, "", false)
		checkRemove(t, q, ticket, "", false)
		checkAll(t, q, pair[string]{2, "b"})
	}
	checkPush(t, q, "e", 5, api.OK)
	checkEmptied(t, q, pair[string]{2, "b"}, pair[string]{5, "e"})
}

func TestNil(t *testing.T) {
	var q *fifo.Queue[string]
	checkPush(t, q, "a", 0, api.ErrArg)
	checkNothingThere(t, q)
}

// A queue that New didn't make has room for none.
func TestZeroQueue(t *testing.T) {
	q := new(fifo.Queue[string])
	checkPush(t, q, "a", 0, api.ErrFull)
	checkNothingThere(t, q)
}
