package arena_test

import (
	"math"
	"slices"
	"testing"

	"forelock/api"
	"forelock/arena"
)

type pair[T any] struct {
	at    int
	value T
}

// listed is all that there is of an arena, in the order told.
func listed[T any](a *arena.Arena[T]) []pair[T] {
	var l []pair[T]
	for at, v := range a.All() {
		l = append(l, pair[T]{at, v})
	}
	return l
}

func checkPut[T any](t *testing.T, a *arena.Arena[T], v T, at int, err api.Errno) {
	t.Helper()
	if got, e := a.Put(v); got != at || e != err {
		t.Errorf("Put(%v): %d, error %d; want %d, error %d", v, got, e, at, err)
	}
}

func checkGet[T comparable](t *testing.T, a *arena.Arena[T], at int, v T, ok bool) {
	t.Helper()
	if got, is := a.Get(at); got != v || is != ok {
		t.Errorf("Get(%d): %v, %v; want %v, %v", at, got, is, v, ok)
	}
}

func checkSet[T any](t *testing.T, a *arena.Arena[T], at int, v T, ok bool) {
	t.Helper()
	if is := a.Set(at, v); is != ok {
		t.Errorf("Set(%d, %v): %v; want %v", at, v, is, ok)
	}
}

func checkDrop[T comparable](t *testing.T, a *arena.Arena[T], at int, v T, ok bool) {
	t.Helper()
	if got, is := a.Drop(at); got != v || is != ok {
		t.Errorf("Drop(%d): %v, %v; want %v, %v", at, got, is, v, ok)
	}
}

func checkAll[T comparable](t *testing.T, a *arena.Arena[T], want ...pair[T]) {
	t.Helper()
	if got := listed(a); !slices.Equal(got, want) {
		t.Errorf("All: %v; want %v", got, want)
	}
	if a.Len() != len(want) {
		t.Errorf("Len: %d; want %d", a.Len(), len(want))
	}
}

// filled is an arena with room for most, with as many values as there are here, at places from 0 on.
func filled[T any](t *testing.T, most int, l ...T) *arena.Arena[T] {
	t.Helper()
	a := arena.New[T](most)
	for i, v := range l {
		checkPut(t, a, v, i, api.OK)
	}
	return a
}

func TestExample(t *testing.T) {
	a := filled(t, 8, "a", "b", "c")
	checkDrop(t, a, 0, "a", true)
	checkDrop(t, a, 1, "b", true)
	checkPut(t, a, "d", 1, api.OK)
	checkPut(t, a, "e", 0, api.OK)
	checkAll(t, a, pair[string]{0, "e"}, pair[string]{1, "d"}, pair[string]{2, "c"})
}

func TestRunOfNumbers(t *testing.T) {
	a := filled(t, 5, 10, 20, 30)
	checkGet(t, a, 0, 10, true)
	checkGet(t, a, 2, 30, true)
	checkSet(t, a, 1, 21, true)
	checkGet(t, a, 1, 21, true)
	checkAll(t, a, pair[int]{0, 10}, pair[int]{1, 21}, pair[int]{2, 30})
	checkDrop(t, a, 1, 21, true)
	checkGet(t, a, 1, 0, false)
	checkSet(t, a, 1, 22, false)
	checkDrop(t, a, 1, 0, false)
	checkAll(t, a, pair[int]{0, 10}, pair[int]{2, 30})
	checkPut(t, a, 0, 1, api.OK)
	// The zero value is a value as any other one.
	checkGet(t, a, 1, 0, true)
	checkPut(t, a, 40, 3, api.OK)
	checkAll(t, a, pair[int]{0, 10}, pair[int]{1, 0}, pair[int]{2, 30}, pair[int]{3, 40})
}

func TestRunOfRows(t *testing.T) {
	first, second := api.Wait{Who: 1, Key: 2, Until: 3}, api.Wait{Who: 4}
	a := filled(t, 2, first, second)
	checkPut(t, a, first, 0, api.ErrFull)
	checkSet(t, a, 0, second, true)
	checkGet(t, a, 0, second, true)
	checkDrop(t, a, 0, second, true)
	checkGet(t, a, 0, api.Wait{}, false)
	checkAll(t, a, pair[api.Wait]{1, second})
}

func TestRunOfPointers(t *testing.T) {
	n := 7
	a := filled(t, 3, &n, nil)
	checkGet(t, a, 0, &n, true)
	checkGet(t, a, 1, nil, true)
	checkDrop(t, a, 1, nil, true)
	checkGet(t, a, 1, nil, false)
	checkAll(t, a, pair[*int]{0, &n})
}

// What can't be compared may be held too.
func TestRunOfSlices(t *testing.T) {
	a := filled(t, 3, []int{1}, nil, []int{2, 3})
	if v, ok := a.Drop(2); !ok || !slices.Equal(v, []int{2, 3}) {
		t.Errorf("Drop(2): %v, %v", v, ok)
	}
	if v, ok := a.Get(2); ok || v != nil {
		t.Errorf("Get(2): %v, %v", v, ok)
	}
	if v, ok := a.Get(0); !ok || !slices.Equal(v, []int{1}) {
		t.Errorf("Get(0): %v, %v", v, ok)
	}
}

func TestArenasAreApart(t *testing.T) {
	a, b := filled(t, 2, "a"), filled(t, 2, "b")
	checkSet(t, a, 0, "A", true)
	checkDrop(t, b, 0, "b", true)
	checkAll(t, a, pair[string]{0, "A"})
	checkAll(t, b)
}

// Of those that are free the one dropped last is taken first; behind them come new ones.
func TestPlacesAreTakenFromTheLastDropped(t *testing.T) {
	a := filled(t, 7, 0, 1, 2, 3, 4)
	for _, at := range []int{3, 0, 4, 1} {
		checkDrop(t, a, at, at, true)
	}
	checkPut(t, a, 11, 1, api.OK)
	checkPut(t, a, 14, 4, api.OK)
	checkDrop(t, a, 2, 2, true)
	checkPut(t, a, 12, 2, api.OK)
	checkPut(t, a, 10, 0, api.OK)
	checkPut(t, a, 13, 3, api.OK)
	checkPut(t, a, 15, 5, api.OK)
	checkPut(t, a, 16, 6, api.OK)
	checkPut(t, a, 17, 0, api.ErrFull)
	for at := range 7 {
		checkGet(t, a, at, 10+at, true)
	}
}

// The greatest place that ever was counts, not the greatest one that is.
func TestNewPlacesComeBehindTheGreatestThatEverWas(t *testing.T) {
	a := filled(t, 6, "a", "b", "c")
	checkDrop(t, a, 2, "c", true)
	checkDrop(t, a, 1, "b", true)
	checkDrop(t, a, 0, "a", true)
	checkAll(t, a)
	checkPut(t, a, "d", 0, api.OK)
	checkPut(t, a, "e", 1, api.OK)
	checkPut(t, a, "f", 2, api.OK)
	checkPut(t, a, "g", 3, api.OK)
}

func TestDropAndPutManyTimes(t *testing.T) {
	a := filled(t, 3, 0, 1, 2)
	for i := range 3 * api.MaxItems {
		at := i % 3
		old, ok := a.Drop(at)
		if !ok || a.Len() != 2 {
			t.Fatalf("round %d: Drop(%d): %d, %v, and there are %d", i, at, old, ok, a.Len())
		}
		if got, err := a.Put(old + 3); got != at || err != api.OK {
			t.Fatalf("round %d: Put: %d, error %d; want %d", i, got, err, at)
		}
	}
	last := 3 * api.MaxItems
	checkAll(t, a, pair[int]{0, last}, pair[int]{1, last + 1}, pair[int]{2, last + 2})
}

func TestMostIsBroughtToItsRange(t *testing.T) {
	for _, c := range []struct{ most, want int }{
		{math.MinInt, 0},
		{-1, 0},
		{0, 0},
		{1, 1},
		{17, 17},
		{api.MaxItems - 1, api.MaxItems - 1},
		{api.MaxItems, api.MaxItems},
		{api.MaxItems + 1, api.MaxItems},
		{math.MaxInt, api.MaxItems},
	} {
		a := arena.New[int](c.most)
		if a.Most() != c.want || a.Len() != 0 {
			t.Errorf("New(%d): %d there, room for %d; want 0, %d", c.most, a.Len(), a.Most(), c.want)
		}
		for at := range c.want {
			checkPut(t, a, at, at, api.OK)
		}
		checkPut(t, a, 1, 0, api.ErrFull)
		if a.Most() != c.want || a.Len() != c.want {
			t.Errorf("New(%d), filled: %d there, room for %d; want %d both", c.most, a.Len(), a.Most(), c.want)
		}
	}
}

func TestNoRoom(t *testing.T) {
	for _, most := range []int{-1, 0} {
		a := arena.New[string](most)
		checkPut(t, a, "a", 0, api.ErrFull)
		checkGet(t, a, 0, "", false)
		checkSet(t, a, 0, "a", false)
		checkDrop(t, a, 0, "", false)
		checkAll(t, a)
	}
}

func TestRoomForOne(t *testing.T) {
	a := filled(t, 1, "a")
	checkPut(t, a, "b", 0, api.ErrFull)
	checkAll(t, a, pair[string]{0, "a"})
	checkDrop(t, a, 0, "a", true)
	checkPut(t, a, "c", 0, api.OK)
	checkPut(t, a, "d", 0, api.ErrFull)
	checkAll(t, a, pair[string]{0, "c"})
}

func TestFullAndThenRoomAgain(t *testing.T) {
	a := filled(t, 3, "a", "b", "c")
	checkPut(t, a, "x", 0, api.ErrFull)
	checkDrop(t, a, 1, "b", true)
	checkPut(t, a, "d", 1, api.OK)
	checkPut(t, a, "x", 0, api.ErrFull)
	// A full arena still takes other values at the places that it has.
	checkSet(t, a, 2, "e", true)
	checkAll(t, a, pair[string]{0, "a"}, pair[string]{1, "d"}, pair[string]{2, "e"})
}

func TestWrongPlaces(t *testing.T) {
	a := filled(t, 8, "a", "b", "c", "d")
	checkDrop(t, a, 3, "d", true)
	checkDrop(t, a, 1, "b", true)
	for _, at := range []int{math.MinInt, -2, -1, 1, 3, 4, 7, 8, api.MaxItems, math.MaxInt} {
		checkGet(t, a, at, "", false)
		checkSet(t, a, at, "x", false)
		checkDrop(t, a, at, "", false)
	}
	checkAll(t, a, pair[string]{0, "a"}, pair[string]{2, "c"})
	// A Drop that is refused makes no place free, and changes no order.
	checkPut(t, a, "e", 1, api.OK)
	checkPut(t, a, "f", 3, api.OK)
	checkPut(t, a, "g", 4, api.OK)
}

func TestNil(t *testing.T) {
	var a *arena.Arena[string]
	checkPut(t, a, "a", 0, api.ErrArg)
	for _, at := range []int{-1, 0, 1} {
		checkGet(t, a, at, "", false)
		checkSet(t, a, at, "a", false)
		checkDrop(t, a, at, "", false)
	}
	checkAll(t, a)
	if a.Most() != 0 {
		t.Errorf("Most: %d", a.Most())
	}
}

// An arena that New didn't make has room for none.
func TestZeroArena(t *testing.T) {
	a := new(arena.Arena[string])
	checkPut(t, a, "a", 0, api.ErrFull)
	checkGet(t, a, 0, "", false)
	checkSet(t, a, 0, "a", false)
	checkDrop(t, a, 0, "", false)
	checkAll(t, a)
	if a.Most() != 0 {
		t.Errorf("Most: %d", a.Most())
	}
}
