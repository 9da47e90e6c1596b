package fixq

import (
	"cmp"
	"math/bits"
)

// wide is a number of 128 bits: each product of two numbers of 64 bits is one.
type wide struct {
	high, low uint64
}

func product(a, b uint64) wide {
	high, low := bits.Mul64(a, b)
	return wide{high, low}
}

// order is -1, 0 or 1: x is less than y, the same, greater.
func order(x, y wide) int {
	if x.high != y.high {
		return cmp.Compare(x.high, y.high)
	}
	return cmp.Compare(x.low, y.low)
}

// apart is the distance of x and y, whichever is the greater one.
func apart(x, y wide) wide {
	if order(x, y) < 0 {
		x, y = y, x
	}
	low, borrow := bits.Sub64(x.low, y.low, 0)
	high, _ := bits.Sub64(x.high, y.high, borrow)
	return wide{high, low}
}
