package heap_test

import (
	"math"
	"slices"
	"testing"

	"forelock/api"
	"forelock/heap"
)

type pair[T any] struct {
	key   api.Key
	value T
}

func key(v uint64, id int) api.Key {
	return api.Key{V: v, ID: id}
}

func checkPush[T any](t *testing.T, h *heap.Heap[T], k api.Key, v T, err api.Errno) {
	t.Helper()
	if e := h.Push(k, v); e != err {
		t.Errorf("Push(%v, %v): error %d; want %d", k, v, e, err)
	}
}

func checkMove[T any](t *testing.T, h *heap.Heap[T], id int, v uint64, err api.Errno) {
	t.Helper()
	if e := h.Move(id, v); e != err {
		t.Errorf("Move(%d, %d): error %d; want %d", id, v, e, err)
	}
}

func checkRemove[T comparable](t *testing.T, h *heap.Heap[T], id int, want pair[T], ok bool) {
	t.Helper()
	if k, v, is := h.Remove(id); k != want.key || v != want.value || is != ok {
		t.Errorf("Remove(%d): %v, %v, %v; want %v, %v", id, k, v, is, want, ok)
	}
}

func checkPop[T comparable](t *testing.T, h *heap.Heap[T], want pair[T], ok bool) {
	t.Helper()
	if k, v, is := h.Pop(); k != want.key || v != want.value || is != ok {
		t.Errorf("Pop: %v, %v, %v; want %v, %v", k, v, is, want, ok)
	}
}

// checkFirst holds all that a heap says without being changed against what it is to have, in order.
func checkFirst[T comparable](t *testing.T, h *heap.Heap[T], want ...pair[T]) {
	t.Helper()
	if h.Len() != len(want) {
		t.Errorf("Len: %d; want %d", h.Len(), len(want))
	}
	var first pair[T]
	if len(want) > 0 {
		first = want[0]
	}
	if k, v, ok := h.Peek(); k != first.key || v != first.value || ok != (len(want) > 0) {
		t.Errorf("Peek: %v, %v, %v; want %v of %d", k, v, ok, first, len(want))
	}
}

// checkAll holds what a heap has against what it is to have, in order. The heap has none from then on.
func checkAll[T comparable](t *testing.T, h *heap.Heap[T], want ...pair[T]) {
	t.Helper()
	for i, p := range want {
		checkFirst(t, h, want[i:]...)
		checkPop(t, h, p, true)
	}
	checkFirst(t, h)
	checkPop(t, h, pair[T]{}, false)
}

// filled is a heap with room for most, with these pairs, pushed in this order.
func filled[T any](t *testing.T, most int, l ...pair[T]) *heap.Heap[T] {
	t.Helper()
	h := heap.New[T](most)
	for _, p := range l {
		checkPush(t, h, p.key, p.value, api.OK)
	}
	return h
}

func TestRunOfTexts(t *testing.T) {
	h := filled(t, 4, pair[string]{key(7, 0), "seven"}, pair[string]{key(2, 1), "two"}, pair[string]{key(4, 2), "four"})
	checkFirst(t, h, pair[string]{key(2, 1), "two"}, pair[string]{key(4, 2), "four"}, pair[string]{key(7, 0), "seven"})
	checkPush(t, h, key(1, 3), "one", api.OK)
	checkPop(t, h, pair[string]{key(1, 3), "one"}, true)
	checkMove(t, h, 0, 3, api.OK)
	checkRemove(t, h, 1, pair[string]{key(2, 1), "two"}, true)
	checkAll(t, h, pair[string]{key(3, 0), "seven"}, pair[string]{key(4, 2), "four"})
	checkPush(t, h, key(9, 1), "again", api.OK)
	checkAll(t, h, pair[string]{key(9, 1), "again"})
}

func TestRunOfNumbers(t *testing.T) {
	// The zero value is a value as any other one, and so is the zero key.
	h := filled(t, 5, pair[int]{key(1, 1), 7}, pair[int]{key(0, 0), 0})
	checkFirst(t, h, pair[int]{key(0, 0), 0}, pair[int]{key(1, 1), 7})
	checkRemove(t, h, 0, pair[int]{key(0, 0), 0}, true)
	checkRemove(t, h, 0, pair[int]{}, false)
	checkPush(t, h, key(2, 0), 0, api.OK)
	checkAll(t, h, pair[int]{key(1, 1), 7}, pair[int]{key(2, 0), 0})
}

func TestRunOfPointers(t *testing.T) {
	n := 7
	h := filled(t, 3, pair[*int]{key(2, 0), &n}, pair[*int]{key(1, 1), nil})
	checkMove(t, h, 0, 0, api.OK)
	checkAll(t, h, pair[*int]{key(0, 0), &n}, pair[*int]{key(1, 1), nil})
}

// What can't be compared may be held too.
func TestRunOfSlices(t *testing.T) {
	h := filled(t, 3, pair[[]int]{key(2, 0), []int{2, 3}}, pair[[]int]{key(1, 1), []int{4}})
	if k, v, ok := h.Peek(); k != key(1, 1) || !slices.Equal(v, []int{4}) || !ok {
		t.Errorf("Peek: %v, %v, %v", k, v, ok)
	}
	if k, v, ok := h.Remove(0); k != key(2, 0) || !slices.Equal(v, []int{2, 3}) || !ok {
		t.Errorf("Remove: %v, %v, %v", k, v, ok)
	}
	if k, v, ok := h.Pop(); k != key(1, 1) || !slices.Equal(v, []int{4}) || !ok {
		t.Errorf("Pop: %v, %v, %v", k, v, ok)
	}
	if k, v, ok := h.Pop(); k != key(0, 0) || v != nil || ok {
		t.Errorf("Pop of none: %v, %v, %v", k, v, ok)
	}
}

func TestHeapsAreApart(t *testing.T) {
	a, b := filled(t, 2, pair[string]{key(1, 0), "a"}), filled(t, 2, pair[string]{key(1, 0), "b"})
	checkMove(t, a, 0, 2, api.OK)
	checkPop(t, b, pair[string]{key(1, 0), "b"}, true)
	checkAll(t, a, pair[string]{key(2, 0), "a"})
	checkAll(t, b)
}

func TestDueFirstByVThenByID(t *testing.T) {
	keys := []api.Key{
		key(0, math.MinInt), key(0, -1), key(0, 0), key(0, math.MaxInt),
		key(1, -3), key(1, -2), key(1, 1), key(1, 2), key(1, 3),
		key(1<<63-1, 7), key(1<<63, 6), key(1<<63+1, 5),
		key(math.MaxUint64, math.MinInt+1), key(math.MaxUint64, 4), key(math.MaxUint64, math.MaxInt-1),
	}
	var want []pair[int]
	for i, k := range keys {
		want = append(want, pair[int]{k, i})
	}
	// Each of these has no divisor in common with 15, so that each key comes once.
	for _, stride := range []int{1, 2, 4, 7, 8, 11, 13, 14} {
		h := heap.New[int](len(keys))
		for i := range keys {
			at := i * stride % len(keys)
			checkPush(t, h, keys[at], at, api.OK)
		}
		checkAll(t, h, want...)
	}
}

func TestSeveralDueAtTheSameV(t *testing.T) {
	var want []pair[int]
	h := heap.New[int](9)
	for i := range 9 {
		want = append(want, pair[int]{key(5, i-4), i})
		id := i*4%9 - 4
		checkPush(t, h, key(5, id), id+4, api.OK)
	}
	checkAll(t, h, want...)
}

func TestMostIsBroughtToItsRange(t *testing.T) {
	for _, c := range []struct{ most, want int }{
		{math.MinInt, 0},
		{-1, 0},
		{0, 0},
		{1, 1},
		{17, 17},
		{api.MaxItems - 1, api.MaxItems - 1},
		{api.MaxItems, api.MaxItems},
		{api.MaxItems + 1, api.MaxItems},
		{math.MaxInt, api.MaxItems},
	} {
		h := heap.New[int](c.most)
		for i := range c.want {
			checkPush(t, h, key(uint64(c.want-i), i), i, api.OK)
		}
		checkPush(t, h, key(0, -1), 1, api.ErrFull)
		if h.Len() != c.want {
			t.Errorf("New(%d), filled: %d there; want %d", c.most, h.Len(), c.want)
		}
		for i := range c.want {
			checkPop(t, h, pair[int]{key(uint64(i+1), c.want-1-i), c.want - 1 - i}, true)
		}
		checkFirst(t, h)
	}
}

// checkNothingThere holds against nothing all that a heap says by which it isn't changed.
func checkNothingThere(t *testing.T, h *heap.Heap[string]) {
	t.Helper()
	checkAll(t, h)
	for _, id := range []int{math.MinInt, -1, 0, 1, math.MaxInt} {
		checkRemove(t, h, id, pair[string]{}, false)
	}
	for _, until := range []uint64{0, 1, math.MaxUint64} {
		due := h.Due(until)
		if due == nil {
			t.Fatalf("Due(%d) is nil", until)
		}
		if got := reached(due, 1); len(got) != 0 {
			t.Errorf("Due(%d): %v", until, got)
		}
	}
}

func TestNoRoom(t *testing.T) {
	for _, most := range []int{-1, 0} {
		h := heap.New[string](most)
		checkPush(t, h, key(0, 0), "a", api.ErrFull)
		checkMove(t, h, 0, 1, api.ErrNone)
		checkNothingThere(t, h)
	}
}

func TestRoomForOne(t *testing.T) {
	h := filled(t, 1, pair[string]{key(4, 0), "a"})
	checkPush(t, h, key(5, 1), "b", api.ErrFull)
	checkPush(t, h, key(3, 1), "b", api.ErrFull)
	checkMove(t, h, 0, 6, api.OK)
	checkFirst(t, h, pair[string]{key(6, 0), "a"})
	checkRemove(t, h, 0, pair[string]{key(6, 0), "a"}, true)
	checkPush(t, h, key(5, 1), "c", api.OK)
	checkPush(t, h, key(4, 0), "d", api.ErrFull)
	checkAll(t, h, pair[string]{key(5, 1), "c"})
}

func TestFullAndThenRoomAgain(t *testing.T) {
	a, b, c := pair[string]{key(1, 1), "a"}, pair[string]{key(2, 2), "b"}, pair[string]{key(3, 3), "c"}
	h := filled(t, 3, b, c, a)
	checkPush(t, h, key(0, 4), "x", api.ErrFull)
	// One by that number is there: that is told ahead of that there is no room.
	checkPush(t, h, b.key, "x", api.ErrMet)
	checkPush(t, h, key(9, 2), "x", api.ErrMet)
	// To move asks for no room, and makes none; nor does what is refused.
	checkMove(t, h, 1, 9, api.OK)
	checkMove(t, h, 1, 1, api.OK)
	checkRemove(t, h, 9, pair[string]{}, false)
	checkPush(t, h, key(0, 4), "x", api.ErrFull)
	checkFirst(t, h, a, b, c)
	checkRemove(t, h, 2, b, true)
	checkPush(t, h, key(4, 4), "d", api.OK)
	checkPush(t, h, key(4, 5), "x", api.ErrFull)
	checkPop(t, h, a, true)
	checkPush(t, h, key(2, 5), "e", api.OK)
	checkPush(t, h, key(4, 6), "x", api.ErrFull)
	for k := range h.Due(2) {
		if k != key(2, 5) {
			t.Errorf("Due(2): %v", k)
		}
	}
	checkPush(t, h, key(5, 5), "f", api.OK)
	checkPush(t, h, key(4, 6), "x", api.ErrFull)
	checkAll(t, h, c, pair[string]{key(4, 4), "d"}, pair[string]{key(5, 5), "f"})
}

func TestPushOfANumberThatIsThere(t *testing.T) {
	a, b := pair[string]{key(5, -1), "a"}, pair[string]{key(6, 0), "b"}
	h := filled(t, 4, a, b)
	for _, v := range []uint64{0, 4, 5, 6, 7, math.MaxUint64} {
		checkPush(t, h, key(v, -1), "x", api.ErrMet)
		checkPush(t, h, key(v, 0), "x", api.ErrMet)
	}
	checkMove(t, h, 0, 1, api.OK)
	checkPush(t, h, key(6, 0), "x", api.ErrMet)
	checkAll(t, h, pair[string]{key(1, 0), "b"}, a)
}

func TestNumberThatIsThereNoMoreIsPushedAgain(t *testing.T) {
	a, b := pair[string]{key(5, 1), "a"}, pair[string]{key(6, 2), "b"}
	again := pair[string]{key(7, 1), "again"}
	for name, takeOff := range map[string]func(h *heap.Heap[string]){
		"Pop":    func(h *heap.Heap[string]) { checkPop(t, h, a, true) },
		"Remove": func(h *heap.Heap[string]) { checkRemove(t, h, 1, a, true) },
		"Due":    func(h *heap.Heap[string]) { reached(h.Due(5), 0) },
	} {
		t.Log(name)
		h := filled(t, 4, a, b)
		takeOff(h)
		checkRemove(t, h, 1, pair[string]{}, false)
		checkMove(t, h, 1, 0, api.ErrNone)
		checkPush(t, h, again.key, "again", api.OK)
		checkPush(t, h, a.key, "x", api.ErrMet)
		checkFirst(t, h, b, again)
		checkMove(t, h, 1, 3, api.OK)
		checkAll(t, h, pair[string]{key(3, 1), "again"}, b)
	}
}

// tens is the pairs of the keys (10, 0), (20, -1), (30, 2), (40, -3) and so on, n of them.
func tens(n int) []pair[int] {
	var l []pair[int]
	for i := range n {
		id := i
		if i%2 == 1 {
			id = -i
		}
		l = append(l, pair[int]{key(uint64(10*i+10), id), i})
	}
	return l
}

func TestRemoveOfEach(t *testing.T) {
	for n := range 20 {
		l := tens(n)
		falling := slices.Clone(l)
		slices.Reverse(falling)
		for at, p := range l {
			for _, order := range [][]pair[int]{l, falling} {
				h := filled(t, n, order...)
				checkRemove(t, h, p.key.ID, p, true)
				checkRemove(t, h, p.key.ID, pair[int]{}, false)
				checkAll(t, h, slices.Concat(l[:at], l[at+1:])...)
			}
		}
	}
}

// The one that steps into the stead of what is taken away (here 4, of 11) may come ahead of those that it is put below (here 10).
func TestRemoveWhereTheLastOneGoesUp(t *testing.T) {
	vs := []uint64{1, 10, 2, 11, 12, 3, 4}
	for id := range vs {
		h := heap.New[int](7)
		var want []pair[int]
		for i, v := range vs {
			checkPush(t, h, key(v, i), i, api.OK)
			if i != id {
				want = append(want, pair[int]{key(v, i), i})
			}
		}
		slices.SortFunc(want, func(a, b pair[int]) int { return int(a.key.V) - int(b.key.V) })
		checkRemove(t, h, id, pair[int]{key(vs[id], id), id}, true)
		checkAll(t, h, want...)
	}
}

func TestRemoveAndMoveOfWhatIsNotThere(t *testing.T) {
	a, b := pair[string]{key(2, 2), "a"}, pair[string]{key(4, -4), "b"}
	h := filled(t, 3, a, b)
	for _, id := range []int{math.MinInt, -5, -2, 0, 1, 3, 4, math.MaxInt} {
		checkRemove(t, h, id, pair[string]{}, false)
		checkMove(t, h, id, 1, api.ErrNone)
		checkFirst(t, h, a, b)
	}
	checkAll(t, h, a, b)
}

func TestMove(t *testing.T) {
	a, b, c := pair[string]{key(2, 1), "a"}, pair[string]{key(4, 2), "b"}, pair[string]{key(6, 3), "c"}
	for _, x := range []struct {
		id   int
		v    uint64
		want []pair[string]
	}{
		// To the V that it has.
		{1, 2, []pair[string]{a, b, c}},
		{2, 4, []pair[string]{a, b, c}},
		{3, 6, []pair[string]{a, b, c}},
		// To an earlier one.
		{1, 0, []pair[string]{{key(0, 1), "a"}, b, c}},
		{2, 3, []pair[string]{a, {key(3, 2), "b"}, c}},
		{2, 1, []pair[string]{{key(1, 2), "b"}, a, c}},
		{3, 3, []pair[string]{a, {key(3, 3), "c"}, b}},
		{3, 0, []pair[string]{{key(0, 3), "c"}, a, b}},
		// To a later one.
		{1, 3, []pair[string]{{key(3, 1), "a"}, b, c}},
		{1, 5, []pair[string]{b, {key(5, 1), "a"}, c}},
		{1, 7, []pair[string]{b, c, {key(7, 1), "a"}}},
		{2, math.MaxUint64, []pair[string]{a, c, {key(math.MaxUint64, 2), "b"}}},
		{3, math.MaxUint64, []pair[string]{a, b, {key(math.MaxUint64, 3), "c"}}},
		// To one that others have: the least number comes first.
		{1, 4, []pair[string]{{key(4, 1), "a"}, b, c}},
		{1, 6, []pair[string]{b, {key(6, 1), "a"}, c}},
		{2, 2, []pair[string]{a, {key(2, 2), "b"}, c}},
		{3, 2, []pair[string]{a, {key(2, 3), "c"}, b}},
		{3, 4, []pair[string]{a, b, {key(4, 3), "c"}}},
	} {
		h := filled(t, 3, c, a, b)
		checkMove(t, h, x.id, x.v, api.OK)
		checkFirst(t, h, x.want...)
		checkAll(t, h, x.want...)
	}
}

func TestMoveOfEach(t *testing.T) {
	for n := range 12 {
		l := tens(n)
		for at, p := range l {
			others := slices.Concat(l[:at], l[at+1:])
			for to := range n {
				h := filled(t, n, l...)
				moved := pair[int]{key(uint64(10*to+5), p.key.ID), p.value}
				checkMove(t, h, p.key.ID, moved.key.V, api.OK)
				// Of the others, those come ahead that are due at 10 times to or earlier.
				ahead := 0
				for ahead < len(others) && others[ahead].key.V < moved.key.V {
					ahead++
				}
				checkAll(t, h, slices.Insert(slices.Clone(others), ahead, moved)...)
			}
		}
	}
}

func TestNil(t *testing.T) {
	var h *heap.Heap[string]
	checkPush(t, h, key(1, 0), "a", api.ErrArg)
	checkMove(t, h, 0, 2, api.ErrArg)
	checkMove(t, h, 0, 1, api.ErrArg)
	checkNothingThere(t, h)
}

// A heap that New didn't make has room for none.
func TestZeroHeap(t *testing.T) {
	h := new(heap.Heap[string])
	checkPush(t, h, key(1, 0), "a", api.ErrFull)
	checkMove(t, h, 0, 2, api.ErrNone)
	checkNothingThere(t, h)
}
