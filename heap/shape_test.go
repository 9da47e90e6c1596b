package heap

import (
	"testing"

	"forelock/api"
)

// checkShape holds a heap's inside against what its other calls rely on.
func checkShape(t *testing.T, h *Heap[*int]) {
	t.Helper()
	for at, it := range h.items {
		if at > 0 && comesAhead(it.key, h.items[(at-1)/2].key) {
			t.Errorf("%v comes ahead of the one above it, %v", it.key, h.items[(at-1)/2].key)
		}
		if place, ok := h.places[it.key.ID]; place != at || !ok {
			t.Errorf("the place of %v is said to be %d; it is %d", it.key, place, at)
		}
	}
	if len(h.places) != len(h.items) {
		t.Errorf("%d places of %d items", len(h.places), len(h.items))
	}
	for _, it := range h.items[len(h.items):cap(h.items)] {
		if it.value != nil {
			t.Errorf("a value is kept that was taken away, by %v", it.key)
		}
	}
}

func TestShapeInLongRuns(t *testing.T) {
	state := uint64(1)
	next := func(n uint64) uint64 {
		state = state*6364136223846793005 + 1442695040888963407
		return state >> 33 % n
	}
	for _, ids := range []uint64{3, 20, 70} {
		h := New[*int](50)
		for i := range 5000 {
			k := api.Key{V: next(ids), ID: int(next(ids))}
			switch next(5) {
			case 0, 1:
				h.Push(k, &i)
			case 2:
				h.Move(k.ID, k.V)
			case 3:
				h.Remove(k.ID)
			case 4:
				h.Pop()
			}
			checkShape(t, h)
		}
	}
}
