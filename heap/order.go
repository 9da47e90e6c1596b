package heap

import "forelock/api"

// comesAhead answers whether a is due ahead of b: by V, then by ID.
func comesAhead(a, b api.Key) bool {
	if a.V != b.V {
		return a.V < b.V
	}
	return a.ID < b.ID
}

// take takes the item at a place away, and answers it.
func (h *Heap[T]) take(at int) (api.Key, T, bool) {
	gone, last := h.items[at], len(h.items)-1
	moved := h.items[last]
	// The whole item goes, so that nothing of the value is kept.
	h.items[last] = item[T]{}
	h.items = h.items[:last]
	delete(h.places, gone.key.ID)
	if at < last {
		h.settle(at, moved)
	}
	return gone.key, gone.value, true
}

// settle puts an item where it belongs, from an open place on, all others being in order.
func (h *Heap[T]) settle(at int, it item[T]) {
	h.put(h.sunk(h.risen(at, it.key), it.key), it)
}

// risen brings an open place up past those that k comes ahead of, and answers where it is then.
func (h *Heap[T]) risen(at int, k api.Key) int {
	for at > 0 {
		above := (at - 1) / 2
		if !comesAhead(k, h.items[above].key) {
			break
		}
		h.put(at, h.items[above])
		at = above
	}
	return at
}

// sunk brings an open place down past those that come ahead of k, and answers where it is then.
func (h *Heap[T]) sunk(at int, k api.Key) int {
	for {
		below := h.firstBelow(at)
		if below == at || !comesAhead(h.items[below].key, k) {
			return at
		}
		h.put(at, h.items[below])
		at = below
	}
}

// firstBelow answers, of the places right below at, the one of the item that comes first; at, if there are none.
func (h *Heap[T]) firstBelow(at int) int {
	left, right := 2*at+1, 2*at+2
	switch {
	case left >= len(h.items):
		return at
	case right >= len(h.items) || comesAhead(h.items[left].key, h.items[right].key):
		return left
	}
	return right
}

func (h *Heap[T]) put(at int, it item[T]) {
	h.items[at] = it
	h.places[it.key.ID] = at
}
