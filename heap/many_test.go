package heap_test

import (
	"cmp"
	"slices"
	"testing"

	"forelock/api"
	"forelock/heap"
)

// plain is a heap as the chapter tells it, with no thought of time: a list in order.
type plain struct {
	most int
	list []pair[int]
}

// place is where the one by a number stands, -1 if there is none.
func (p *plain) place(id int) int {
	return slices.IndexFunc(p.list, func(q pair[int]) bool { return q.key.ID == id })
}

func (p *plain) push(k api.Key, v int) api.Errno {
	if p.place(k.ID) >= 0 {
		return api.ErrMet
	}
	if len(p.list) == p.most {
		return api.ErrFull
	}
	p.list = append(p.list, pair[int]{k, v})
	slices.SortFunc(p.list, func(a, b pair[int]) int {
		return cmp.Or(cmp.Compare(a.key.V, b.key.V), cmp.Compare(a.key.ID, b.key.ID))
	})
	return api.OK
}

func (p *plain) pop() (pair[int], bool) {
	if len(p.list) == 0 {
		return pair[int]{}, false
	}
	first := p.list[0]
	p.list = slices.Clone(p.list[1:])
	return first, true
}

func (p *plain) remove(id int) (pair[int], bool) {
	at := p.place(id)
	if at < 0 {
		return pair[int]{}, false
	}
	gone := p.list[at]
	p.list = slices.Delete(p.list, at, at+1)
	return gone, true
}

func (p *plain) move(id int, v uint64) api.Errno {
	gone, ok := p.remove(id)
	if !ok {
		return api.ErrNone
	}
	return p.push(key(v, id), gone.value)
}

// due takes off what a loop that is left behind n of its rounds is to say.
func (p *plain) due(until uint64, n int) []pair[int] {
	var l []pair[int]
	for len(p.list) > 0 && p.list[0].key.V <= until && len(l) < n {
		first, _ := p.pop()
		l = append(l, first)
	}
	return l
}

// row answers numbers below n, the same ones each time.
func row(seed uint64) func(n int) int {
	state := seed
	return func(n int) int {
		state = state*6364136223846793005 + 1442695040888963407
		return int((state ^ state>>29) >> 33 % uint64(n))
	}
}

// step does one thing to both, and holds the answers against each other.
func step(t *testing.T, h *heap.Heap[int], p *plain, next func(n int) int, value int) {
	t.Helper()
	v, id := uint64(next(p.most+3)), next(2*p.most+2)-p.most
	switch next(12) {
	case 0, 1, 2, 3, 4:
		checkPush(t, h, key(v, id), value, p.push(key(v, id), value))
	case 5:
		want, ok := p.pop()
		checkPop(t, h, want, ok)
	case 6, 7:
		want, ok := p.remove(id)
		checkRemove(t, h, id, want, ok)
	case 8, 9, 10:
		checkMove(t, h, id, v, p.move(id, v))
	default:
		n := next(4) + 1
		want := p.due(v/3, n)
		if got := reached(h.Due(v/3), n); !slices.Equal(got, want) {
			t.Errorf("Due(%d), left behind %d: %v; want %v", v/3, n, got, want)
		}
	}
}

func TestManyRuns(t *testing.T) {
	for most := range 40 {
		next := row(uint64(most) + 20261118)
		h, p := heap.New[int](most), &plain{most: most}
		for value := range 1500 {
			step(t, h, p, next, value)
			checkFirst(t, h, p.list...)
			if t.Failed() {
				t.Fatalf("room for %d, step %d", most, value)
			}
		}
		checkAll(t, h, p.list...)
	}
}

// All orders in which six may come, of which some are due at once.
func TestAllOrders(t *testing.T) {
	l := []pair[int]{{key(1, 4), 0}, {key(2, -1), 1}, {key(2, 0), 2}, {key(2, 3), 3}, {key(7, -9), 4}, {key(8, 1), 5}}
	for _, o := range orders(len(l)) {
		h := heap.New[int](len(l))
		for _, i := range o {
			checkPush(t, h, l[i].key, l[i].value, api.OK)
		}
		gone := l[o[0]]
		checkRemove(t, h, gone.key.ID, gone, true)
		want := slices.Delete(slices.Clone(l), o[0], o[0]+1)
		checkAll(t, h, want...)
		if t.Failed() {
			t.Fatal(o)
		}
	}
}

// orders is all orders of the numbers below n.
func orders(n int) [][]int {
	if n == 0 {
		return [][]int{nil}
	}
	var l [][]int
	for _, o := range orders(n - 1) {
		for at := range n {
			l = append(l, slices.Insert(slices.Clone(o), at, n-1))
		}
	}
	return l
}

// What a heap says hangs on what it holds, not on how that came.
func TestHoweverItCame(t *testing.T) {
	l := tens(30)
	falling := slices.Clone(l)
	slices.Reverse(falling)
	moved := heap.New[int](31)
	for i, p := range l {
		checkPush(t, moved, key(uint64(1000-i), p.key.ID), p.value, api.OK)
	}
	for _, p := range l {
		checkMove(t, moved, p.key.ID, p.key.V, api.OK)
	}
	amid := heap.New[int](31)
	for _, p := range falling {
		checkPush(t, amid, key(p.key.V-1, 99), 0, api.OK)
		checkPush(t, amid, p.key, p.value, api.OK)
		checkRemove(t, amid, 99, pair[int]{key(p.key.V-1, 99), 0}, true)
	}
	for _, h := range []*heap.Heap[int]{filled(t, 30, l...), filled(t, 30, falling...), moved, amid} {
		checkAll(t, h, l...)
	}
}
