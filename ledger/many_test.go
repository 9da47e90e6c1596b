package ledger_test

import (
	"math"
	"testing"

	"forelock/ledger"
)

// row answers numbers below n, the same ones each time.
func row(state uint64) func(n int) int {
	return func(n int) int {
		state = state*6364136223846793005 + 1442695040888963407
		mixed := (state ^ state>>31) * 0x9E3779B97F4A7C15
		return int(mixed >> 1 % uint64(n))
	}
}

// step is a call, and what is handed in.
type step struct {
	kind int
	p    int
	w    int
	set  uint64
}

const (
	stepCharge = iota
	stepSettle
	stepWeigh
	stepAsk
)

// answer is what a call answers.
type answer struct {
	ok    bool
	least int
	ticks int
}

// do does a step to a ledger, and answers what that answered.
func (s step) do(b book) answer {
	switch s.kind {
	case stepCharge:
		return answer{ok: b.Charge(s.p)}
	case stepSettle:
		b.Settle(s.set)
	case stepWeigh:
		return answer{ok: b.Weigh(s.p, s.w)}
	case stepAsk:
		return answer{least: b.Least(s.set), ticks: b.Behind(s.p, s.set)}
	}
	return answer{}
}

// anyWeight is mostly a weight that may be, a small one rather often.
func anyWeight(next func(n int) int) int {
	switch next(8) {
	case 0:
		l := []int{math.MinInt, -1, 0, 17, 100, math.MaxInt}
		return l[next(len(l))]
	case 1, 2, 3:
		return 1 + next(3)
	}
	return 1 + next(16)
}

// anySet is mostly a set of parties, sometimes with numbers that are none's.
func anySet(next func(n int) int, parties int) uint64 {
	s := uint64(next(1 << parties))
	switch next(8) {
	case 0:
		s |= uint64(next(math.MaxInt)) << parties
	case 1:
		s |= 1 << 63
	}
	return s
}

// anyParty is mostly a party, the first ones more often.
func anyParty(next func(n int) int, parties int) int {
	if next(25) == 0 {
		l := numbers()
		return l[next(len(l))]
	}
	return next(1 + next(parties+1))
}

// drawn is a step of a run.
func drawn(next func(n int) int, parties int) step {
	kinds := []int{stepCharge, stepCharge, stepCharge, stepCharge, stepCharge, stepSettle, stepSettle, stepWeigh, stepAsk}
	return step{kinds[next(len(kinds))], anyParty(next, parties), anyWeight(next), anySet(next, parties)}
}

// follow does so many steps to both ledgers, which tell the same behind each.
func (x *twin) follow(next func(n int) int, steps int) {
	x.Helper()
	for i := range steps {
		s, floor := drawn(next, x.p.Len()), x.l.Floor()
		want := s.do(x.p)
		if got := s.do(x.l); got != want {
			x.Errorf("it answers %+v; want %+v", got, want)
		}
		x.check([]uint64{0xff, anySet(next, 8)})
		if x.l.Floor() < floor {
			x.Errorf("the floor fell from %d to %d", floor, x.l.Floor())
		}
		if x.Failed() {
			x.Fatalf("step %d: %+v, with weights of %v, a slice of %d, a section of %d", i, s, x.p.weights, x.p.slice, x.p.crit)
		}
	}
}

// drawnTwin is one with so many parties, of any weights.
func drawnTwin(t *testing.T, next func(n int) int, parties int) *twin {
	t.Helper()
	var l []int
	for range parties {
		l = append(l, anyWeight(next))
	}
	return newTwin(t, l, next(35), next(6)*next(8))
}

func TestManyRuns(t *testing.T) {
	for parties := range 9 {
		for seed := range 12 {
			next := row(uint64(parties*100 + seed))
			drawnTwin(t, next, parties).follow(next, 250)
		}
	}
}

// Where V's come to the greatest number, too.
func TestManyRunsAtTheEnd(t *testing.T) {
	greatest := 0
	for parties := 1; parties <= 8; parties++ {
		for seed := range 5 {
			next := row(uint64(parties*1000 + seed))
			x := drawnTwin(t, next, parties)
			for p := range parties {
				x.l.Lift(p, most)
				x.p.Lift(p, most)
			}
			// From the floor up to what one may be above it, and more.
			for range 3 {
				x.follow(next, 60)
				for p := range parties {
					v := most - uint64(next(30*lockUnit))
					x.l.Lift(p, v)
					x.p.Lift(p, v)
				}
				x.check(sets())
			}
			greatest += countMost(x.p)
			x.follow(next, 300)
			greatest += countMost(x.p)
		}
	}
	if greatest < 40 {
		t.Errorf("only %d V's were the greatest number", greatest)
	}
}

func countMost(p *plain) int {
	n := 0
	for _, v := range p.vs {
		if v == most {
			n++
		}
	}
	return n
}

// Two ledgers, of which one is turned, each as if the other weren't there.
func TestManyRunsOfTwo(t *testing.T) {
	next := row(77)
	one, other := newTwin(t, []int{1, 2, 3}, 2, 3), newTwin(t, []int{1, 2, 3}, 2, 3)
	one.follow(next, 300)
	other.check(all())
	for range 60 {
		one.follow(next, 1+next(8))
		other.check(sets())
		other.follow(next, 1+next(8))
		one.check(sets())
	}
}

// The same calls answer the same, whenever they are made.
func TestOneAnswer(t *testing.T) {
	weights := []int{5, 1, 16, 2, 1}
	first, second := ledger.New(weights, 3, 4), ledger.New(weights, 3, 4)
	next := row(5)
	for range 5000 {
		s := drawn(next, len(weights))
		if a, b := s.do(first), s.do(second); a != b {
			t.Fatalf("%+v: %+v, then %+v", s, a, b)
		}
	}
	x := &twin{t, first, newPlain(weights, 3, 4)}
	next = row(5)
	for range 5000 {
		drawn(next, len(weights)).do(x.p)
	}
	x.check(all())
	x.l = second
	x.check(all())
}

// If who is the Least holds each tick, all have as many as they weigh.
func TestLeastSharesByWeight(t *testing.T) {
	l := ledger.New([]int{1, 2, 4, 8}, 1, 1)
	for range 150 {
		l.Settle(15)
		l.Charge(l.Least(15))
	}
	for p, want := range []int{10, 20, 40, 80} {
		if l.Held(p) != want {
			t.Errorf("party %d held %d ticks; want %d", p, l.Held(p), want)
		}
	}
}
