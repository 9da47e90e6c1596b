package rbtree

import (
	"cmp"

	"forelock/api"
)

type item[T any] struct {
	key   api.Key
	value T
}

// node is the top of a tree that is red and black: none red below a red one, and on each way down as many black ones.
// It is never changed once it is made: with and without make the nodes on their way anew, and share all others.
type node[T any] struct {
	item[T]
	red         bool
	left, right *node[T]
}

func red[T any](left *node[T], it item[T], right *node[T]) *node[T] {
	return &node[T]{it, true, left, right}
}

func black[T any](left *node[T], it item[T], right *node[T]) *node[T] {
	return &node[T]{it, false, left, right}
}

func (n *node[T]) isRed() bool {
	return n != nil && n.red
}

func (n *node[T]) isBlack() bool {
	return n != nil && !n.red
}

// asRoot answers n in black, which spoils no way down, as each one begins there.
func (n *node[T]) asRoot() *node[T] {
	if !n.isRed() {
		return n
	}
	return black(n.left, n.item, n.right)
}

func order(a, b api.Key) int {
	return cmp.Or(cmp.Compare(a.V, b.V), cmp.Compare(a.ID, b.ID))
}

// find answers the node of the key k, or nil.
func (n *node[T]) find(k api.Key) *node[T] {
	for n != nil {
		switch c := order(k, n.key); {
		case c < 0:
			n = n.left
		case c > 0:
			n = n.right
		default:
			return n
		}
	}
	return nil
}

func (n *node[T]) height() int {
	if n == nil {
		return 0
	}
	return 1 + max(n.left.height(), n.right.height())
}

// walk goes over what is from or behind it, and answers whether it is to go on.
func (n *node[T]) walk(from api.Key, yield func(api.Key, T) bool) bool {
	if n == nil {
		return true
	}
	if order(n.key, from) < 0 {
		return n.right.walk(from, yield)
	}
	return n.left.walk(from, yield) && yield(n.key, n.value) && n.right.walk(from, yield)
}

// with answers n with an item more, by a key that isn't there.
// Of a red n the answer may have a red one below its red top; the black one above mends it.
func (n *node[T]) with(it item[T]) *node[T] {
	if n == nil {
		return red(nil, it, nil)
	}
	left, right := n.left, n.right
	if order(it.key, n.key) < 0 {
		left = left.with(it)
	} else {
		right = right.with(it)
	}
	if n.red {
		return red(left, n.item, right)
	}
	return balance(left, n.item, right)
}

// balance answers a tree as high in black nodes as that of a black top, where one side may have a red one below its red top.
func balance[T any](left *node[T], it item[T], right *node[T]) *node[T] {
	switch {
	case left.isRed() && right.isRed():
		return red(left.asRoot(), it, right.asRoot())
	case left.isRed() && left.left.isRed():
		return red(left.left.asRoot(), left.item, black(left.right, it, right))
	case left.isRed() && left.right.isRed():
		mid := left.right
		return red(black(left.left, left.item, mid.left), mid.item, black(mid.right, it, right))
	case right.isRed() && right.right.isRed():
		return red(black(left, it, right.left), right.item, right.right.asRoot())
	case right.isRed() && right.left.isRed():
		mid := right.left
		return red(black(left, it, mid.left), mid.item, black(mid.right, right.item, right.right))
	}
	return black(left, it, right)
}
