package rbtree

import "forelock/api"

// without answers n without the item by k, which is there.
// Of a black n the answer has one black node fewer on each way down; of a red one it has as many.
func (n *node[T]) without(k api.Key) *node[T] {
	c := order(k, n.key)
	switch {
	case c < 0 && n.left.red:
		return red(n.left.without(k), n.item, n.right)
	case c < 0:
		return leftShort(n.left.without(k), n.item, n.right)
	case c > 0 && n.right.red:
		return red(n.left, n.item, n.right.without(k))
	case c > 0:
		return rightShort(n.left, n.item, n.right.without(k))
	}
	return join(n.left, n.right)
}

// leftShort answers a tree of two sides, of which left has one black node fewer than right on each way down.
func leftShort[T any](left *node[T], it item[T], right *node[T]) *node[T] {
	switch {
	case left.isRed():
		return red(left.asRoot(), it, right)
	case right.isBlack():
		return balance(left, it, reddened(right))
	}
	// right is red, so that what is below it is black, and there, as left is short.
	mid := right.left
	return red(black(left, it, mid.left), mid.item, balance(mid.right, right.item, reddened(right.right)))
}

// rightShort is leftShort seen in a mirror.
func rightShort[T any](left *node[T], it item[T], right *node[T]) *node[T] {
	switch {
	case right.isRed():
		return red(left, it, right.asRoot())
	case left.isBlack():
		return balance(reddened(left), it, right)
	}
	mid := left.right
	return red(balance(reddened(left.left), left.item, mid.left), mid.item, black(mid.right, it, right))
}

func reddened[T any](n *node[T]) *node[T] {
	return red(n.left, n.item, n.right)
}

// join answers a tree of all that is in two trees as high in black nodes, each of left ahead of each of right.
func join[T any](left, right *node[T]) *node[T] {
	switch {
	case left == nil:
		return right
	case right == nil:
		return left
	case left.red && right.red:
		return joinReds(left, right)
	case !left.red && !right.red:
		return joinBlacks(left, right)
	case right.red:
		return red(join(left, right.left), right.item, right.right)
	}
	return red(left.left, left.item, join(left.right, right))
}

func joinReds[T any](left, right *node[T]) *node[T] {
	mid := join(left.right, right.left)
	if !mid.isRed() {
		return red(left.left, left.item, red(mid, right.item, right.right))
	}
	return red(red(left.left, left.item, mid.left), mid.item, red(mid.right, right.item, right.right))
}

func joinBlacks[T any](left, right *node[T]) *node[T] {
	mid := join(left.right, right.left)
	if !mid.isRed() {
		return leftShort(left.left, left.item, black(mid, right.item, right.right))
	}
	return red(black(left.left, left.item, mid.left), mid.item, black(mid.right, right.item, right.right))
}
