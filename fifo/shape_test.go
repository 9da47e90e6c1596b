package fifo

import "testing"

// checkShape holds a queue's inside against what its calls rely on.
func checkShape(t *testing.T, q *Queue[int]) {
	t.Helper()
	ahead, steps := nowhere, 0
	for at := q.first; at != nowhere && steps <= q.nodes.Len(); steps++ {
		n, ok := q.nodes.Get(at)
		if !ok || n.ahead != ahead {
			t.Fatalf("place %d: %v, %v; ahead is %d", at, n, ok, ahead)
		}
		if place, met := q.places[n.ticket]; place != at || !met {
			t.Fatalf("the place of ticket %d is said to be %d; it is %d", n.ticket, place, at)
		}
		ahead, at = at, n.behind
	}
	if q.last != ahead {
		t.Fatalf("the last one is said to be at %d; it is at %d", q.last, ahead)
	}
	if steps != q.nodes.Len() || steps != len(q.places) {
		t.Fatalf("%d nodes in order, %d in all, %d places", steps, q.nodes.Len(), len(q.places))
	}
}

func TestShapeInLongRuns(t *testing.T) {
	state := uint64(1)
	next := func(n uint64) int {
		state = state*6364136223846793005 + 1442695040888963407
		return int(state >> 33 % n)
	}
	for _, most := range []int{1, 5, 40} {
		q, other := New[int](most), New[int](most/2)
		for i := range 3000 {
			switch next(6) {
			case 0, 1, 2:
				q.Push(i)
			case 3:
				q.Pop()
			case 4:
				q.Remove(q.ticket - next(uint64(most)))
			case 5:
				Pour(q, other, next(4)-1)
				Pour(other, q, next(4)-1)
			}
			checkShape(t, q)
			checkShape(t, other)
		}
	}
}
