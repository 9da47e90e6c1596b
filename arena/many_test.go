package arena_test

import (
	"testing"

	"forelock/api"
	"forelock/arena"
)

// plain is an arena as the chapter tells it, with no thought of time: a value of -1 is none.
type plain struct {
	most    int
	values  []int
	dropped []int
}

func (p *plain) has(at int) bool {
	return at >= 0 && at < len(p.values) && p.values[at] >= 0
}

func (p *plain) list() []pair[int] {
	var l []pair[int]
	for at, v := range p.values {
		if v >= 0 {
			l = append(l, pair[int]{at, v})
		}
	}
	return l
}

func (p *plain) put(v int) (int, api.Errno) {
	if len(p.list()) >= p.most {
		return 0, api.ErrFull
	}
	if len(p.dropped) == 0 {
		p.values = append(p.values, v)
		return len(p.values) - 1, api.OK
	}
	last := len(p.dropped) - 1
	at := p.dropped[last]
	p.dropped = p.dropped[:last]
	p.values[at] = v
	return at, api.OK
}

func (p *plain) drop(at int) {
	p.values[at] = -1
	p.dropped = append(p.dropped, at)
}

// row answers numbers below n, the same ones each time.
func row(seed uint64) func(n int) int {
	state := seed
	return func(n int) int {
		state = state*6364136223846793005 + 1442695040888963407
		return int((state ^ state>>29) >> 33 % uint64(n))
	}
}

// step does one thing to both, and holds the answers against each other; v is a value that wasn't there before.
func step(t *testing.T, a *arena.Arena[int], p *plain, what, at, v int) {
	t.Helper()
	was, ok := 0, p.has(at)
	if ok {
		was = p.values[at]
	}
	switch what {
	case 0, 1, 2:
		place, err := p.put(v)
		checkPut(t, a, v, place, err)
	case 3, 4:
		checkDrop(t, a, at, was, ok)
		if ok {
			p.drop(at)
		}
	case 5:
		checkSet(t, a, at, v, ok)
		if ok {
			p.values[at] = v
		}
	default:
		checkGet(t, a, at, was, ok)
	}
}

func TestManyRuns(t *testing.T) {
	for most := range 12 {
		next := row(uint64(most) + 20261118)
		a, p := arena.New[int](most), &plain{most: most}
		for v := range 2000 {
			step(t, a, p, next(7), next(most+3)-1, v)
			checkAll(t, a, p.list()...)
			if t.Failed() {
				t.Fatalf("room for %d, step %d", most, v)
			}
		}
	}
}
