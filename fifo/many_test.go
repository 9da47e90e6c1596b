package fifo_test

import (
	"slices"
	"testing"

	"forelock/api"
	"forelock/fifo"
)

// plain is a queue as the chapter tells it, with no thought of time: a list in order.
type plain struct {
	most   int
	ticket int
	list   []pair[int]
}

func (p *plain) push(v int) (int, api.Errno) {
	if len(p.list) == p.most {
		return 0, api.ErrFull
	}
	p.ticket++
	p.list = append(p.list, pair[int]{p.ticket, v})
	return p.ticket, api.OK
}

func (p *plain) pop() (int, bool) {
	if len(p.list) == 0 {
		return 0, false
	}
	return p.remove(p.list[0].ticket)
}

func (p *plain) remove(ticket int) (int, bool) {
	for i, q := range p.list {
		if q.ticket == ticket {
			p.list = slices.Delete(p.list, i, i+1)
			return q.value, true
		}
	}
	return 0, false
}

func (p *plain) get(ticket int) (int, bool) {
	for _, q := range p.list {
		if q.ticket == ticket {
			return q.value, true
		}
	}
	return 0, false
}

func (p *plain) pour(to *plain, n int) int {
	poured := 0
	for poured < n && len(p.list) > 0 && len(to.list) < to.most {
		v, _ := p.pop()
		to.push(v)
		poured++
	}
	return poured
}

// row answers numbers below n, the same ones each time.
func row(seed uint64) func(n int) int {
	state := seed
	return func(n int) int {
		state = state*6364136223846793005 + 1442695040888963407
		return int((state ^ state>>29) >> 33 % uint64(n))
	}
}

// both is a queue, and what it is to be.
type both struct {
	q *fifo.Queue[int]
	p *plain
}

// step does one thing to both, and holds the answers against each other.
func step(t *testing.T, b, other both, next func(n int) int, value int) {
	t.Helper()
	// Of the tickets those that were given last come most often.
	ticket := b.p.ticket + 2 - next(b.p.most+5)
	switch next(8) {
	case 0, 1, 2:
		want, err := b.p.push(value)
		checkPush(t, b.q, value, want, err)
	case 3:
		want, ok := b.p.pop()
		checkPop(t, b.q, want, ok)
	case 4, 5:
		want, ok := b.p.remove(ticket)
		checkRemove(t, b.q, ticket, want, ok)
	case 6:
		want, ok := b.p.get(ticket)
		checkGet(t, b.q, ticket, want, ok)
	default:
		n := next(5) - 1
		checkPour(t, b.q, other.q, n, b.p.pour(other.p, n))
	}
}

func TestManyRuns(t *testing.T) {
	for most := range 30 {
		next := row(uint64(most) + 20261118)
		var l [2]both
		for i := range l {
			l[i] = both{fifo.New[int](most - i), &plain{most: max(most-i, 0)}}
		}
		for value := range 1500 {
			at := next(2)
			step(t, l[at], l[1-at], next, value)
			for _, b := range l {
				checkAll(t, b.q, b.p.list...)
			}
			if t.Failed() {
				t.Fatalf("room for %d, step %d", most, value)
			}
		}
		for _, b := range l {
			checkEmptied(t, b.q, b.p.list...)
		}
	}
}
