package rbtree_test

import (
	"cmp"
	"slices"
	"testing"

	"forelock/api"
	"forelock/rbtree"
)

// plain is a tree as the chapter tells it, with no thought of time: a list in order.
type plain struct {
	most int
	list []pair[int]
}

// place is where k stands, or would stand.
func (p *plain) place(k api.Key) (int, bool) {
	return slices.BinarySearchFunc(p.list, k, func(q pair[int], k api.Key) int {
		return cmp.Or(cmp.Compare(q.key.V, k.V), cmp.Compare(q.key.ID, k.ID))
	})
}

func (p *plain) insert(k api.Key, v int) api.Errno {
	at, ok := p.place(k)
	if ok {
		return api.ErrMet
	}
	if len(p.list) == p.most {
		return api.ErrFull
	}
	p.list = slices.Insert(p.list, at, pair[int]{k, v})
	return api.OK
}

func (p *plain) find(k api.Key) (int, bool) {
	at, ok := p.place(k)
	if !ok {
		return 0, false
	}
	return p.list[at].value, true
}

func (p *plain) remove(k api.Key) (int, bool) {
	v, ok := p.find(k)
	if at, _ := p.place(k); ok {
		p.list = slices.Delete(p.list, at, at+1)
	}
	return v, ok
}

func (p *plain) move(k, to api.Key) api.Errno {
	v, ok := p.find(k)
	if !ok {
		return api.ErrNone
	}
	if _, met := p.find(to); met && k != to {
		return api.ErrMet
	}
	p.remove(k)
	return p.insert(to, v)
}

// row answers numbers below n, the same ones each time.
func row(seed uint64) func(n int) int {
	state := seed
	return func(n int) int {
		state = state*6364136223846793005 + 1442695040888963407
		return int((state ^ state>>29) >> 33 % uint64(n))
	}
}

// step does one thing to both, and holds the answers against each other.
func step(t *testing.T, x *rbtree.Tree[int], p *plain, what int, k, to api.Key, v int) {
	t.Helper()
	switch what {
	case 0, 1, 2:
		checkInsert(t, x, k, v, p.insert(k, v))
	case 3, 4:
		was, ok := p.remove(k)
		checkDelete(t, x, k, was, ok)
	case 5:
		checkMove(t, x, k, to, p.move(k, to))
	case 6:
		at, _ := p.place(k)
		if got := reached(x.From(k), 0); !slices.Equal(got, p.list[at:]) {
			t.Errorf("From(%v): %v; want %v", k, got, p.list[at:])
		}
	default:
		was, ok := p.find(k)
		checkFind(t, x, k, was, ok)
	}
}

func TestManyRuns(t *testing.T) {
	for most := range 40 {
		next := row(uint64(most) + 20261118)
		any := func() api.Key { return key(uint64(next(most+2)), next(3)-1) }
		x, p := rbtree.New[int](most), &plain{most: most}
		for v := range 1500 {
			step(t, x, p, next(8), any(), any(), v)
			checkAll(t, x, p.list...)
			if t.Failed() {
				t.Fatalf("room for %d, step %d", most, v)
			}
		}
	}
}

// places is the numbers below n in an order of that kind.
func places(kind string, n int) []int {
	l := make([]int, n)
	for i := range l {
		l[i] = i
	}
	next := row(uint64(n))
	switch kind {
	case "falling":
		slices.Reverse(l)
	case "mixed":
		for i := range l {
			j := i + next(n-i)
			l[i], l[j] = l[j], l[i]
		}
	case "from both ends":
		for i := range l {
			l[i] = i / 2
			if i%2 == 1 {
				l[i] = n - 1 - i/2
			}
		}
	}
	return l
}

func TestHeight(t *testing.T) {
	kinds := []string{"rising", "falling", "mixed", "from both ends"}
	for _, put := range kinds {
		for _, taken := range kinds {
			x := rbtree.New[int](api.MaxItems)
			for _, i := range places(put, 600) {
				checkInsert(t, x, key(uint64(i), 0), i, api.OK)
				checkHeight(t, x)
			}
			for _, i := range places(taken, 600) {
				checkDelete(t, x, key(uint64(i), 0), i, true)
				checkHeight(t, x)
			}
			if t.Failed() {
				t.Fatalf("put %s, taken %s", put, taken)
			}
		}
	}
}

func TestHeightOfFew(t *testing.T) {
	x := rbtree.New[int](3)
	// On one level there is room for one, and 2 to the power 1 is at most 2 and 1.
	for n, h := range []int{0, 1, 2} {
		if x.Height() != h {
			t.Errorf("Height of %d: %d; want %d", n, x.Height(), h)
		}
		checkInsert(t, x, key(uint64(n), 0), n, api.OK)
	}
}

func TestHeightOfMost(t *testing.T) {
	for _, kind := range []string{"rising", "falling", "mixed", "from both ends"} {
		x := rbtree.New[int](api.MaxItems)
		for _, i := range places(kind, api.MaxItems) {
			checkInsert(t, x, key(uint64(i), i), i, api.OK)
		}
		checkHeight(t, x)
		for _, i := range places(kind, api.MaxItems)[:api.MaxItems-50] {
			checkDelete(t, x, key(uint64(i), i), i, true)
		}
		checkHeight(t, x)
	}
}

// Moves may bend a tree as well as what comes and goes.
func TestHeightBehindMoves(t *testing.T) {
	x := rbtree.New[int](200)
	for i := range 200 {
		checkInsert(t, x, key(uint64(i), 0), i, api.OK)
	}
	for i := range 2000 {
		checkMove(t, x, key(uint64(i), 0), key(uint64(i+200), 0), api.OK)
		checkHeight(t, x)
	}
}

// sifted is a tree of these pairs that others were ahead of.
func sifted(t *testing.T, l []pair[int]) *rbtree.Tree[int] {
	t.Helper()
	x := rbtree.New[int](101)
	for i := range 100 {
		checkInsert(t, x, key(uint64(i), 7), 0, api.OK)
	}
	for i, p := range l {
		checkInsert(t, x, p.key, p.value, api.OK)
		for j := range 5 {
			checkDelete(t, x, key(uint64(5*i+j), 7), 0, true)
		}
	}
	return x
}

// moved is a tree of these pairs that stood by other keys, in another order.
func moved(t *testing.T, l []pair[int]) *rbtree.Tree[int] {
	t.Helper()
	x := rbtree.New[int](len(l))
	for i, p := range l {
		checkInsert(t, x, key(uint64(1000-i), 3), p.value, api.OK)
	}
	for i, p := range l {
		checkMove(t, x, key(uint64(1000-i), 3), p.key, api.OK)
	}
	return x
}

// What a tree says hangs on what it holds, not on how that came.
func TestHoweverItCame(t *testing.T) {
	l := tens()
	mixed := make([]pair[int], len(l))
	for i, at := range places("mixed", len(l)) {
		mixed[i] = l[at]
	}
	falling := slices.Clone(l)
	slices.Reverse(falling)
	for _, x := range []*rbtree.Tree[int]{
		filled(t, 20, l...), filled(t, 20, mixed...), filled(t, 20, falling...), sifted(t, l), moved(t, l),
	} {
		checkAll(t, x, l...)
		p := &plain{list: l}
		for i := range 220 {
			k := key(uint64(i), 0)
			at, ok := p.place(k)
			if got := reached(x.From(k), 0); !slices.Equal(got, l[at:]) {
				t.Errorf("From(%v): %v; want %v", k, got, l[at:])
			}
			v, _ := p.find(k)
			checkFind(t, x, k, v, ok)
		}
	}
}
