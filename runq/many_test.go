package runq_test

import (
	"math"
	"slices"
	"testing"

	"forelock/api"
	"forelock/runq"
)

// row answers numbers below n, the same ones each time.
func row(state uint64) func(n int) int {
	return func(n int) int {
		state = state*6364136223846793005 + 1442695040888963407
		mixed := (state ^ state>>31) * 0x9E3779B97F4A7C15
		return int(mixed >> 1 % uint64(n))
	}
}

// step is a call, and what is handed in.
type step struct {
	kind int
	id   int
	v    uint64
	w    int
}

const (
	stepAdd = iota
	stepRemove
	stepPick
	stepBack
	stepTick
	stepWeigh
	stepSettle
	stepReady
	stepGo
)

// answer is what a call answers.
type answer struct {
	id    int
	v     uint64
	err   api.Errno
	ok    bool
	spots []spot
}

func (a answer) same(b answer) bool {
	return a.id == b.id && a.v == b.v && a.err == b.err && a.ok == b.ok && slices.Equal(a.spots, b.spots)
}

// do does a step to a queue, and answers what that answered.
func (s step) do(q queue) answer {
	var a answer
	switch s.kind {
	case stepAdd:
		a.v, a.err = q.Add(s.id, s.v, s.w)
	case stepRemove:
		a.v, a.ok = q.Remove(s.id)
	case stepPick:
		a.id, a.ok = q.Pick()
	case stepBack:
		a.id, a.ok = q.Back()
	case stepTick:
		a.id, a.ok = q.Tick()
	case stepWeigh:
		a.ok = q.Weigh(s.id, s.w)
	case stepSettle:
		q.Settle()
	case stepReady:
		a.spots = reached(q.Ready(), s.w%5)
	case stepGo:
		a.id = goOn(q)
	}
	return a
}

// goOn is a go; it answers who had the tick.
func goOn(q queue) int {
	if q.Due() {
		q.Back()
	}
	if _, _, ok := q.Current(); !ok {
		q.Pick()
	}
	id, _ := q.Tick()
	q.Settle()
	return id
}

func goes(q queue, n int) {
	for range n {
		goOn(q)
	}
}

// anyWeight is a weight of each kind: small, any that may be, one that doesn't divide, one that is brought.
func anyWeight(next func(n int) int) int {
	switch next(5) {
	case 0:
		return 1 + next(4)
	case 1:
		return 1 + next(16)
	case 2:
		return 1 + next(4096)
	case 3:
		return 4090 + next(10)
	}
	l := []int{math.MinInt, -3, 0, 5000, math.MaxInt}
	return l[next(len(l))]
}

// anyV is a V about the floor, and what lies within a reach of it, or any.
func anyV(next func(n int) int, floor uint64) uint64 {
	reach := uint64(1+next(8)) * cost(anyWeight(next))
	switch next(6) {
	case 0:
		return 0
	case 1:
		return most
	case 2:
		return sum(floor, uint64(next(1<<41)))
	case 3:
		return floor + uint64(next(5)) - 2
	case 4:
		return floor + reach + uint64(next(3)) - 1
	}
	return uint64(next(math.MaxInt))
}

// anyNumber is one of a few numbers, so that many are met; seldom one that is none's.
func anyNumber(next func(n int) int, few int) int {
	if next(30) == 0 {
		l := []int{math.MinInt, -1, 1 << 32, math.MaxInt}
		return l[next(len(l))]
	}
	return next(few)
}

// drawn is a step of a run over a few numbers, with calls of these kinds.
func drawn(next func(n int) int, few int, floor uint64, kinds []int) step {
	return step{kinds[next(len(kinds))], anyNumber(next, few), anyV(next, floor), anyWeight(next)}
}

// allKinds is calls of all kinds, some more often than others.
func allKinds() []int {
	return []int{
		stepAdd, stepAdd, stepRemove, stepPick, stepPick, stepBack, stepTick, stepTick, stepTick, stepTick,
		stepWeigh, stepWeigh, stepSettle, stepReady, stepGo, stepGo,
	}
}

// follow does so many steps to both queues, which tell the same behind each.
func (x *twin) follow(next func(n int) int, steps, few int, kinds []int) {
	x.Helper()
	for i := range steps {
		s := drawn(next, few, x.q.Floor(), kinds)
		want := s.do(x.p)
		if got := s.do(x.q); !got.same(want) {
			x.Errorf("it answers %+v; want %+v", got, want)
		}
		checkLike(x.T, x.q, x.p)
		if x.Failed() {
			x.Fatalf("step %d: %+v, with a grain of %d and %d numbers", i, s, x.p.grain, few)
		}
	}
}

func TestManyRuns(t *testing.T) {
	for grain := 1; grain <= 8; grain++ {
		for _, few := range []int{1, 2, 3, 5, 9, 17, 21} {
			x := newTwin(t, grain)
			x.follow(row(uint64(grain*100+few)), 1200, few, allKinds())
		}
	}
}

// Many are there, few go: the queue is full for long.
func TestManyRunsOfFullQueues(t *testing.T) {
	kinds := append(allKinds(), stepAdd, stepAdd, stepAdd, stepAdd, stepAdd, stepGo, stepGo, stepWeigh, stepWeigh)
	for grain := 1; grain <= 8; grain++ {
		x := newTwin(t, grain)
		next := row(uint64(grain))
		x.follow(next, 2000, 21, kinds)
		for id := 0; x.q.Len() < 16; id++ {
			x.q.Add(id, 0, 1)
			x.p.Add(id, 0, 1)
		}
		x.refuse(100, 0, 1, api.ErrFull)
		x.follow(next, 1000, 21, kinds)
	}
}

// Where V's come to the greatest number, too.
func TestManyRunsAtTheEnd(t *testing.T) {
	for grain := 1; grain <= 8; grain++ {
		// As far below the greatest number as one of weight 1 reaches.
		x := risen(t, grain, grain)
		next := row(uint64(1000 + grain))
		greatest := 0
		for range 200 {
			x.follow(next, 10, 12, allKinds())
			for _, p := range x.p.list {
				if p.v == most {
					greatest++
				}
			}
		}
		if greatest < 30 {
			t.Fatalf("with a grain of %d only %d V's were the greatest number", grain, greatest)
		}
	}
}

// Two queues are turned by turns, each as if the other weren't there.
func TestManyRunsOfTwoQueues(t *testing.T) {
	one, other := newTwin(t, 2), newTwin(t, 5)
	next := row(77)
	for range 150 {
		one.follow(next, 1+next(20), 9, allKinds())
		checkLike(t, other.q, other.p)
		other.follow(next, 1+next(20), 9, allKinds())
		checkLike(t, one.q, one.p)
	}
}

// The same calls answer the same, whenever they are made.
func TestOneAnswer(t *testing.T) {
	first, second := runq.New(3), runq.New(3)
	next := row(5)
	for range 3000 {
		s := drawn(next, 9, first.Floor(), allKinds())
		if a, b := s.do(first), s.do(second); !a.same(b) {
			t.Fatalf("%+v: %+v, then %+v", s, a, b)
		}
	}
	checkLike(t, first, second)
}
