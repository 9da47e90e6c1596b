package rbtree_test

import (
	"math"
	"slices"
	"testing"

	"forelock/api"
	"forelock/rbtree"
)

type pair[T any] struct {
	key   api.Key
	value T
}

func key(v uint64, id int) api.Key {
	return api.Key{V: v, ID: id}
}

// listed is all that there is of a tree, in the order told.
func listed[T any](x *rbtree.Tree[T]) []pair[T] {
	var l []pair[T]
	for k, v := range x.All() {
		l = append(l, pair[T]{k, v})
	}
	return l
}

func checkInsert[T any](t *testing.T, x *rbtree.Tree[T], k api.Key, v T, err api.Errno) {
	t.Helper()
	if e := x.Insert(k, v); e != err {
		t.Errorf("Insert(%v, %v): error %d; want %d", k, v, e, err)
	}
}

func checkDelete[T comparable](t *testing.T, x *rbtree.Tree[T], k api.Key, v T, ok bool) {
	t.Helper()
	if got, is := x.Delete(k); got != v || is != ok {
		t.Errorf("Delete(%v): %v, %v; want %v, %v", k, got, is, v, ok)
	}
}

func checkFind[T comparable](t *testing.T, x *rbtree.Tree[T], k api.Key, v T, ok bool) {
	t.Helper()
	if got, is := x.Find(k); got != v || is != ok {
		t.Errorf("Find(%v): %v, %v; want %v, %v", k, got, is, v, ok)
	}
}

func checkMove[T any](t *testing.T, x *rbtree.Tree[T], k, to api.Key, err api.Errno) {
	t.Helper()
	if e := x.Move(k, to); e != err {
		t.Errorf("Move(%v, %v): error %d; want %d", k, to, e, err)
	}
}

func checkHeight[T any](t *testing.T, x *rbtree.Tree[T]) {
	t.Helper()
	h, n := x.Height(), x.Len()
	// On h levels there is room for 2^h - 1 values, and there is none on a level without one.
	if h < 0 || h > n || 1<<(h/2) > n+1 || n >= 1<<h {
		t.Errorf("Height of %d values: %d", n, h)
	}
}

// checkAll holds all that a tree says of what it has against what it is to have, in order.
func checkAll[T comparable](t *testing.T, x *rbtree.Tree[T], want ...pair[T]) {
	t.Helper()
	if got := listed(x); !slices.Equal(got, want) {
		t.Errorf("All: %v; want %v", got, want)
	}
	if x.Len() != len(want) {
		t.Errorf("Len: %d; want %d", x.Len(), len(want))
	}
	var first pair[T]
	if len(want) > 0 {
		first = want[0]
	}
	if k, v, ok := x.First(); k != first.key || v != first.value || ok != (len(want) > 0) {
		t.Errorf("First: %v, %v, %v; want %v of %d", k, v, ok, first, len(want))
	}
	checkHeight(t, x)
}

// filled is a tree with room for most, with these pairs, put in this order.
func filled[T any](t *testing.T, most int, l ...pair[T]) *rbtree.Tree[T] {
	t.Helper()
	x := rbtree.New[T](most)
	for _, p := range l {
		checkInsert(t, x, p.key, p.value, api.OK)
	}
	return x
}

func TestExample(t *testing.T) {
	x := filled(t, 8, pair[string]{key(5, 1), "a"}, pair[string]{key(3, 2), "b"})
	checkAll(t, x, pair[string]{key(3, 2), "b"}, pair[string]{key(5, 1), "a"})
}

func TestRunOfTexts(t *testing.T) {
	x := filled(t, 5, pair[string]{key(7, 0), "seven"}, pair[string]{key(2, 0), "two"}, pair[string]{key(4, 0), "four"})
	checkFind(t, x, key(4, 0), "four", true)
	checkDelete(t, x, key(4, 0), "four", true)
	checkFind(t, x, key(4, 0), "", false)
	checkAll(t, x, pair[string]{key(2, 0), "two"}, pair[string]{key(7, 0), "seven"})
	checkMove(t, x, key(7, 0), key(1, 0), api.OK)
	checkFind(t, x, key(7, 0), "", false)
	checkFind(t, x, key(1, 0), "seven", true)
	checkAll(t, x, pair[string]{key(1, 0), "seven"}, pair[string]{key(2, 0), "two"})
	checkDelete(t, x, key(1, 0), "seven", true)
	checkDelete(t, x, key(2, 0), "two", true)
	checkAll(t, x)
	checkInsert(t, x, key(2, 0), "again", api.OK)
	checkAll(t, x, pair[string]{key(2, 0), "again"})
}

func TestRunOfNumbers(t *testing.T) {
	// The zero value is a value as any other one.
	x := filled(t, 5, pair[int]{key(1, 1), 0}, pair[int]{key(0, 0), 7})
	checkFind(t, x, key(1, 1), 0, true)
	checkFind(t, x, key(1, 0), 0, false)
	checkAll(t, x, pair[int]{key(0, 0), 7}, pair[int]{key(1, 1), 0})
	checkDelete(t, x, key(1, 1), 0, true)
	checkDelete(t, x, key(1, 1), 0, false)
	checkAll(t, x, pair[int]{key(0, 0), 7})
}

func TestRunOfPointers(t *testing.T) {
	n := 7
	x := filled(t, 3, pair[*int]{key(2, 0), &n}, pair[*int]{key(1, 0), nil})
	checkFind(t, x, key(1, 0), nil, true)
	checkMove(t, x, key(2, 0), key(0, 0), api.OK)
	checkAll(t, x, pair[*int]{key(0, 0), &n}, pair[*int]{key(1, 0), nil})
	checkDelete(t, x, key(0, 0), &n, true)
	checkAll(t, x, pair[*int]{key(1, 0), nil})
}

// What can't be compared may be held too.
func TestRunOfSlices(t *testing.T) {
	x := filled(t, 3, pair[[]int]{key(2, 0), []int{2, 3}}, pair[[]int]{key(1, 0), nil})
	if v, ok := x.Find(key(2, 0)); !ok || !slices.Equal(v, []int{2, 3}) {
		t.Errorf("Find: %v, %v", v, ok)
	}
	if v, ok := x.Delete(key(2, 0)); !ok || !slices.Equal(v, []int{2, 3}) {
		t.Errorf("Delete: %v, %v", v, ok)
	}
	if v, ok := x.Find(key(2, 0)); ok || v != nil {
		t.Errorf("Find: %v, %v", v, ok)
	}
}

func TestTreesAreApart(t *testing.T) {
	a, b := filled(t, 2, pair[string]{key(1, 0), "a"}), filled(t, 2, pair[string]{key(1, 0), "b"})
	checkMove(t, a, key(1, 0), key(2, 0), api.OK)
	checkDelete(t, b, key(1, 0), "b", true)
	checkAll(t, a, pair[string]{key(2, 0), "a"})
	checkAll(t, b)
}

func TestKeysAreInOrderByVThenByID(t *testing.T) {
	keys := []api.Key{
		key(0, math.MinInt), key(0, -1), key(0, 0), key(0, math.MaxInt),
		key(1, -2), key(1, -1), key(1, 0), key(1, 1), key(1, 2),
		key(1<<63-1, 5), key(1<<63, 4), key(1<<63+1, 3),
		key(math.MaxUint64, math.MinInt), key(math.MaxUint64, 0), key(math.MaxUint64, math.MaxInt),
	}
	var want []pair[int]
	for i, k := range keys {
		want = append(want, pair[int]{k, i})
	}
	x := rbtree.New[int](len(keys))
	for i := range keys {
		// 7 and 15 have no divisor in common, so that each comes once.
		at := i * 7 % len(keys)
		checkInsert(t, x, keys[at], at, api.OK)
	}
	checkAll(t, x, want...)
	for i, k := range keys {
		checkFind(t, x, k, i, true)
		checkInsert(t, x, k, 99, api.ErrMet)
		if got := reached(x.From(k), len(keys)); !slices.Equal(got, want[i:]) {
			t.Errorf("From(%v): %v; want %v", k, got, want[i:])
		}
	}
	for i, k := range keys {
		checkDelete(t, x, k, i, true)
		checkAll(t, x, want[i+1:]...)
	}
}

func TestMostIsBroughtToItsRange(t *testing.T) {
	for _, c := range []struct{ most, want int }{
		{math.MinInt, 0},
		{-1, 0},
		{0, 0},
		{1, 1},
		{17, 17},
		{api.MaxItems - 1, api.MaxItems - 1},
		{api.MaxItems, api.MaxItems},
		{api.MaxItems + 1, api.MaxItems},
		{math.MaxInt, api.MaxItems},
	} {
		x := rbtree.New[int](c.most)
		for i := range c.want {
			checkInsert(t, x, key(uint64(i), 0), i, api.OK)
		}
		checkInsert(t, x, key(0, 1), 1, api.ErrFull)
		if x.Len() != c.want {
			t.Errorf("New(%d), filled: %d there; want %d", c.most, x.Len(), c.want)
		}
	}
}

func TestNoRoom(t *testing.T) {
	for _, most := range []int{-1, 0} {
		x := rbtree.New[string](most)
		checkInsert(t, x, key(0, 0), "a", api.ErrFull)
		checkNothingThere(t, x)
		checkMove(t, x, key(0, 0), key(1, 0), api.ErrNone)
	}
}

// checkNothingThere holds against nothing all that a tree says by which it isn't changed.
func checkNothingThere(t *testing.T, x *rbtree.Tree[string]) {
	t.Helper()
	checkAll(t, x)
	for _, k := range []api.Key{{}, key(0, math.MinInt), key(1, 1), key(math.MaxUint64, math.MaxInt)} {
		checkFind(t, x, k, "", false)
		checkDelete(t, x, k, "", false)
		from := x.From(k)
		if from == nil {
			t.Fatalf("From(%v) is nil", k)
		}
		if got := reached(from, 1); len(got) != 0 {
			t.Errorf("From(%v): %v", k, got)
		}
	}
}

func TestRoomForOne(t *testing.T) {
	x := filled(t, 1, pair[string]{key(4, 0), "a"})
	checkInsert(t, x, key(5, 0), "b", api.ErrFull)
	checkAll(t, x, pair[string]{key(4, 0), "a"})
	checkMove(t, x, key(4, 0), key(6, 0), api.OK)
	checkAll(t, x, pair[string]{key(6, 0), "a"})
	checkDelete(t, x, key(6, 0), "a", true)
	checkInsert(t, x, key(5, 0), "c", api.OK)
	checkInsert(t, x, key(4, 0), "d", api.ErrFull)
	checkAll(t, x, pair[string]{key(5, 0), "c"})
}

func TestFullAndThenRoomAgain(t *testing.T) {
	a, b, c := pair[string]{key(1, 0), "a"}, pair[string]{key(2, 0), "b"}, pair[string]{key(3, 0), "c"}
	x := filled(t, 3, b, c, a)
	checkInsert(t, x, key(4, 0), "x", api.ErrFull)
	// One by that key is there: that is told ahead of that there is no room.
	checkInsert(t, x, b.key, "x", api.ErrMet)
	checkAll(t, x, a, b, c)
	// To move asks for no room.
	checkMove(t, x, a.key, key(4, 0), api.OK)
	checkMove(t, x, key(4, 0), a.key, api.OK)
	checkMove(t, x, a.key, a.key, api.OK)
	checkDelete(t, x, key(9, 0), "", false)
	checkInsert(t, x, key(4, 0), "x", api.ErrFull)
	checkDelete(t, x, b.key, "b", true)
	checkInsert(t, x, key(4, 0), "d", api.OK)
	checkInsert(t, x, key(5, 0), "x", api.ErrFull)
	checkAll(t, x, a, c, pair[string]{key(4, 0), "d"})
}

func TestInsertOfAKeyThatIsThere(t *testing.T) {
	x := filled(t, 3, pair[string]{key(1, 0), "a"})
	checkInsert(t, x, key(1, 0), "b", api.ErrMet)
	checkInsert(t, x, key(1, 0), "a", api.ErrMet)
	checkAll(t, x, pair[string]{key(1, 0), "a"})
}

func TestDeleteAndFindOfWhatIsNotThere(t *testing.T) {
	a, b := pair[string]{key(2, 0), "a"}, pair[string]{key(4, 0), "b"}
	x := filled(t, 3, a, b)
	for _, k := range []api.Key{{}, key(1, 0), key(2, -1), key(2, 1), key(3, 0), key(4, -1), key(4, 1), key(math.MaxUint64, 0)} {
		checkFind(t, x, k, "", false)
		checkDelete(t, x, k, "", false)
	}
	checkAll(t, x, a, b)
}

func TestMove(t *testing.T) {
	a, b := pair[string]{key(2, 0), "a"}, pair[string]{key(4, 0), "b"}
	for _, c := range []struct {
		k, to api.Key
		err   api.Errno
		want  []pair[string]
	}{
		{a.key, a.key, api.OK, []pair[string]{a, b}},
		{b.key, b.key, api.OK, []pair[string]{a, b}},
		{a.key, b.key, api.ErrMet, []pair[string]{a, b}},
		{b.key, a.key, api.ErrMet, []pair[string]{a, b}},
		{key(3, 0), key(5, 0), api.ErrNone, []pair[string]{a, b}},
		{key(3, 0), key(3, 0), api.ErrNone, []pair[string]{a, b}},
		// That there is none by k is told ahead of that there is one by to.
		{key(3, 0), a.key, api.ErrNone, []pair[string]{a, b}},
		{key(2, 1), b.key, api.ErrNone, []pair[string]{a, b}},
		{a.key, key(3, 0), api.OK, []pair[string]{{key(3, 0), "a"}, b}},
		{a.key, key(2, 1), api.OK, []pair[string]{{key(2, 1), "a"}, b}},
		{a.key, key(4, -1), api.OK, []pair[string]{{key(4, -1), "a"}, b}},
		{a.key, key(4, 1), api.OK, []pair[string]{b, {key(4, 1), "a"}}},
		{b.key, key(0, 0), api.OK, []pair[string]{{key(0, 0), "b"}, a}},
		{b.key, key(math.MaxUint64, -1), api.OK, []pair[string]{a, {key(math.MaxUint64, -1), "b"}}},
	} {
		x := filled(t, 2, a, b)
		checkMove(t, x, c.k, c.to, c.err)
		checkAll(t, x, c.want...)
	}
}

func TestNil(t *testing.T) {
	var x *rbtree.Tree[string]
	checkInsert(t, x, key(1, 0), "a", api.ErrArg)
	checkMove(t, x, key(1, 0), key(2, 0), api.ErrArg)
	checkMove(t, x, key(1, 0), key(1, 0), api.ErrArg)
	checkNothingThere(t, x)
}

// A tree that New didn't make has room for none.
func TestZeroTree(t *testing.T) {
	x := new(rbtree.Tree[string])
	checkInsert(t, x, key(1, 0), "a", api.ErrFull)
	checkMove(t, x, key(1, 0), key(2, 0), api.ErrNone)
	checkNothingThere(t, x)
}
