package waitq

import (
	"slices"

	"forelock/api"
	"forelock/fifo"
	"forelock/mix"
)

// A line is those who wait for a key. It is there as long as somebody does.
type line struct {
	key   int
	queue *fifo.Queue[api.Wait]
}

// A seat is where one who waits stands.
type seat struct {
	queue  *fifo.Queue[api.Wait]
	ticket int
}

// queue answers those who wait for the key; nil, which holds nobody, if there are none.
func (t *Table) queue(key int) *fifo.Queue[api.Wait] {
	if t.Len() == 0 {
		return nil
	}
	for _, l := range *t.bucket(key) {
		if l.key == key {
			return l.queue
		}
	}
	return nil
}

// bucket answers where the lines of the keys are that fall where the key does.
func (t *Table) bucket(key int) *[]line {
	return &t.buckets[mix.Bucket(key, len(t.buckets))]
}

// seat answers where who stands; if it doesn't wait, a seat in no queue.
func (t *Table) seat(who int) seat {
	if t == nil {
		return seat{}
	}
	return t.seats[who]
}

// enter puts one who doesn't wait behind those who wait for its key. There must be room.
func (t *Table) enter(w api.Wait) {
	q := t.queue(w.Key)
	if q == nil {
		q = t.open(w.Key)
	}
	ticket, _ := q.Push(w)
	t.seats[w.Who] = seat{q, ticket}
}

// open makes the line of a key that nobody waits for.
func (t *Table) open(key int) *fifo.Queue[api.Wait] {
	l := line{key, fifo.New[api.Wait](t.each)}
	b := t.bucket(key)
	*b = append(*b, l)
	return l.queue
}

// leave takes who out of its line; what is due is left as it is.
func (t *Table) leave(who int) (api.Wait, bool) {
	s := t.seat(who)
	w, ok := s.queue.Remove(s.ticket)
	if ok {
		t.vacate(w)
	}
	return w, ok
}

// leaveFirst takes the first one who waits for the key out of its line; what is due is left as it is.
func (t *Table) leaveFirst(key int) (api.Wait, bool) {
	w, ok := t.queue(key).Pop()
	if ok {
		t.vacate(w)
	}
	return w, ok
}

// vacate takes away the seat of one who has left its line, and the line, if that was the last one in it.
func (t *Table) vacate(w api.Wait) {
	delete(t.seats, w.Who)
	b := t.bucket(w.Key)
	*b = slices.DeleteFunc(*b, func(l line) bool { return l.queue.Len() == 0 })
}
