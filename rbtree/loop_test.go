package rbtree_test

import (
	"iter"
	"math"
	"slices"
	"testing"

	"forelock/api"
	"forelock/rbtree"
)

// reached is what a loop says that is left behind n of its rounds.
func reached[T any](loop iter.Seq2[api.Key, T], n int) []pair[T] {
	var l []pair[T]
	for k, v := range loop {
		l = append(l, pair[T]{k, v})
		if len(l) == n {
			break
		}
	}
	return l
}

// tens is the pairs of the keys (10, 0) up to (200, 0).
func tens() []pair[int] {
	var l []pair[int]
	for i := range 20 {
		l = append(l, pair[int]{key(uint64(10*i+10), 0), i})
	}
	return l
}

func TestFrom(t *testing.T) {
	l := tens()
	x := filled(t, 20, l...)
	for i, p := range l {
		there, between := p.key, key(p.key.V-5, 0)
		for _, k := range []api.Key{there, between, key(p.key.V, -1), key(p.key.V-10, 1), key(p.key.V, math.MinInt)} {
			if got := reached(x.From(k), 99); !slices.Equal(got, l[i:]) {
				t.Errorf("From(%v): %v; want %v", k, got, l[i:])
			}
		}
	}
	for _, k := range []api.Key{key(0, math.MinInt), key(0, 0), key(9, math.MaxInt)} {
		if got := reached(x.From(k), 99); !slices.Equal(got, l) {
			t.Errorf("From(%v), ahead of all: %v", k, got)
		}
	}
	for _, k := range []api.Key{key(200, 1), key(201, math.MinInt), key(math.MaxUint64, math.MaxInt)} {
		if got := reached(x.From(k), 99); len(got) != 0 {
			t.Errorf("From(%v), behind all: %v", k, got)
		}
	}
}

func TestLeftEarlyAndGoneOverAgain(t *testing.T) {
	l := tens()
	x := filled(t, 20, l...)
	for at := range l {
		all, from := x.All(), x.From(l[at].key)
		for _, n := range []int{1, 7, at + 1, 2, 20, 1} {
			if got := reached(all, n); !slices.Equal(got, l[:n]) {
				t.Errorf("All, left behind %d: %v; want %v", n, got, l[:n])
			}
			want := l[at:min(at+n, 20)]
			if got := reached(from, n); !slices.Equal(got, want) {
				t.Errorf("From(%v), left behind %d: %v; want %v", l[at].key, n, got, want)
			}
		}
	}
	// To go over a tree takes nothing away.
	checkAll(t, x, l...)
}

// What a loop says is what was there when it was asked for.
func TestLoopsKeepWhatTheyGoOver(t *testing.T) {
	l := tens()
	x := filled(t, 30, l...)
	all, from := x.All(), x.From(key(95, 0))
	checkDelete(t, x, key(100, 0), 9, true)
	checkDelete(t, x, key(10, 0), 0, true)
	checkInsert(t, x, key(100, 0), 77, api.OK)
	checkInsert(t, x, key(101, 0), 78, api.OK)
	checkMove(t, x, key(200, 0), key(1, 0), api.OK)
	for i := range 5 {
		checkDelete(t, x, key(uint64(110+10*i), 0), 10+i, true)
	}
	if got := reached(all, 99); !slices.Equal(got, l) {
		t.Errorf("All, gone over behind changes: %v; want %v", got, l)
	}
	if got := reached(from, 99); !slices.Equal(got, l[9:]) {
		t.Errorf("From, gone over behind changes: %v; want %v", got, l[9:])
	}
	want := slices.Concat([]pair[int]{{key(1, 0), 19}}, l[1:9], []pair[int]{{key(100, 0), 77}, {key(101, 0), 78}}, l[15:19])
	checkAll(t, x, want...)
}

func TestLoopWithinLoop(t *testing.T) {
	x := filled(t, 4, pair[int]{key(3, 0), 3}, pair[int]{key(1, 0), 1}, pair[int]{key(2, 0), 2})
	loop := x.All()
	var got []int
	for _, v := range loop {
		for _, w := range loop {
			got = append(got, 10*v+w)
		}
	}
	if want := []int{11, 12, 13, 21, 22, 23, 31, 32, 33}; !slices.Equal(got, want) {
		t.Errorf("a loop within the same loop: %v; want %v", got, want)
	}
}

func TestLoopsOverNothing(t *testing.T) {
	var none *rbtree.Tree[int]
	emptied := filled(t, 2, pair[int]{key(1, 0), 1})
	checkDelete(t, emptied, key(1, 0), 1, true)
	for i, x := range []*rbtree.Tree[int]{none, rbtree.New[int](0), rbtree.New[int](5), emptied} {
		for _, loop := range []iter.Seq2[api.Key, int]{x.All(), x.From(key(0, 0))} {
			if loop == nil {
				t.Fatalf("tree %d: a loop is nil", i)
			}
			if got := reached(loop, 1); len(got) != 0 {
				t.Errorf("tree %d: %v", i, got)
			}
		}
	}
}
