package rbtree

import (
	"testing"

	"forelock/api"
)

// blacks answers how many black nodes there are on each way down, and whether n is red and black as it is to be.
func blacks(n *node[int]) (int, bool) {
	if n == nil {
		return 0, true
	}
	left, okLeft := blacks(n.left)
	right, okRight := blacks(n.right)
	ok := okLeft && okRight && left == right
	if n.red {
		return left, ok && !n.left.isRed() && !n.right.isRed()
	}
	return left + 1, ok
}

func checkShape(t *testing.T, x *Tree[int]) {
	t.Helper()
	if _, ok := blacks(x.root); !ok || x.root.isRed() {
		t.Fatalf("with %d values the tree isn't red and black as it is to be", x.Len())
	}
}

// Each tree of few keys, put in each order, and taken in each order.
func TestShapeInEachOrder(t *testing.T) {
	orders := allOrders(5)
	for _, put := range orders {
		for _, taken := range orders {
			x := New[int](5)
			for _, i := range put {
				x.Insert(api.Key{V: uint64(i)}, i)
				checkShape(t, x)
			}
			for _, i := range taken {
				x.Delete(api.Key{V: uint64(i)})
				checkShape(t, x)
			}
		}
	}
}

func allOrders(n int) [][]int {
	if n == 0 {
		return [][]int{nil}
	}
	var l [][]int
	for _, o := range allOrders(n - 1) {
		for at := range n {
			with := append([]int{}, o[:at]...)
			with = append(append(with, n-1), o[at:]...)
			l = append(l, with)
		}
	}
	return l
}

// What comes and goes in a long run, of few and of many keys.
func TestShapeInLongRuns(t *testing.T) {
	for _, keys := range []uint64{10, 50, 300} {
		x, state := New[int](api.MaxItems), keys
		for i := range 8000 {
			state = state*6364136223846793005 + 1442695040888963407
			k := api.Key{V: state >> 33 % keys}
			if state>>62 < 2 {
				x.Insert(k, i)
			} else {
				x.Delete(k)
			}
			checkShape(t, x)
		}
	}
}
