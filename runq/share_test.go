package runq_test

import (
	"math/big"
	"slices"
	"testing"

	"forelock/runq"
	"forelock/unit"
)

// shareKinds is what may be done to a queue of which P16.2 and P16.3 tell.
func shareKinds() []int {
	return []int{stepAdd, stepAdd, stepRemove, stepWeigh, stepWeigh, stepGo, stepGo, stepGo, stepGo, stepGo, stepGo, stepGo, stepGo}
}

// watched is a queue, with the weights of its tasks, told apart from it.
type watched struct {
	*testing.T
	q       *runq.Queue
	grain   int
	weights map[int]int
}

func newWatched(t *testing.T, grain int) *watched {
	return &watched{t, runq.New(grain), grain, map[int]int{}}
}

func (k *watched) do(s step) {
	a := s.do(k.q)
	switch {
	case s.kind == stepAdd && a.err == 0, s.kind == stepWeigh && a.ok:
		k.weights[s.id] = brought(s.w)
	case s.kind == stepRemove:
		delete(k.weights, s.id)
	}
}

// checkBounds holds each V against the floor, and that and the reach of its weight, as whole numbers of any size.
func (k *watched) checkBounds() {
	k.Helper()
	floor := new(big.Int).SetUint64(k.q.Floor())
	for id, w := range k.weights {
		got, ok := k.q.V(id)
		v := new(big.Int).SetUint64(got)
		reach := new(big.Int).SetUint64(cost(w) * uint64(k.grain))
		if !ok || v.Cmp(floor) < 0 || v.Sub(v, floor).Cmp(reach) > 0 {
			k.Errorf("V(%d) is %d, %t; the floor is %d, the reach %d", id, got, ok, floor, reach)
		}
	}
	if k.q.Len() != len(k.weights) {
		k.Errorf("it has %d; want %d", k.q.Len(), len(k.weights))
	}
}

func TestBoundsBehindEachGo(t *testing.T) {
	for grain := 1; grain <= 8; grain++ {
		for _, few := range []int{1, 2, 3, 6, 16, 20} {
			k := newWatched(t, grain)
			next := row(uint64(162000 + grain*100 + few))
			for i := range 6000 {
				s := drawn(next, few, k.q.Floor(), shareKinds())
				k.do(s)
				if s.kind == stepGo {
					k.checkBounds()
				}
				if t.Failed() {
					t.Fatalf("step %d: %+v, with a grain of %d and %d numbers", i, s, grain, few)
				}
			}
		}
	}
}

// The current one is weighed, and others come and go, at each of its ticks.
func TestBoundsOfWhoIsWeighed(t *testing.T) {
	for grain := 1; grain <= 8; grain++ {
		for _, w := range [][2]int{{1, 4096}, {4096, 1}, {1, 2}, {2, 1}, {3, 3}, {16, 5}} {
			for at := range 20 {
				k := newWatched(t, grain)
				k.do(step{stepAdd, 0, 0, w[0]})
				k.do(step{stepAdd, 1, most, 1})
				for i := range 60 {
					if i == at {
						k.do(step{stepWeigh, 0, 0, w[1]})
						k.do(step{stepAdd, 2, most, w[0]})
					}
					if i == at+grain+1 {
						k.do(step{stepWeigh, 0, 0, w[0]})
						k.do(step{stepRemove, 1, 0, 0})
					}
					k.do(step{kind: stepGo})
					k.checkBounds()
				}
			}
		}
	}
}

// run is goes between which nothing is done: who had each tick.
type run struct {
	*testing.T
	ids     []int
	weights []int
	grain   int
	who     []int
}

// goOn lets a queue go on, and keeps who has the ticks.
func (k *watched) goOn(n int) run {
	r := run{T: k.T, grain: k.grain}
	for id := range k.weights {
		r.ids = append(r.ids, id)
	}
	slices.Sort(r.ids)
	for _, id := range r.ids {
		r.weights = append(r.weights, k.weights[id])
	}
	for range n {
		r.who = append(r.who, goOn(k.q))
	}
	return r
}

// bound is up to what ticks are fair.
func (r run) bound() int {
	return (len(r.ids)-1)*r.grain + 1
}

// checkFair holds each row of goes of r, from one to ahead of another, against fair shares.
func (r run) checkFair() {
	r.Helper()
	for from := range r.who {
		ticks := make([]int, len(r.ids))
		for to := from; to < len(r.who); to++ {
			at := slices.Index(r.ids, r.who[to])
			if at < 0 {
				r.Fatalf("go %d: the tick is %d's; want one of %v", to, r.who[to], r.ids)
			}
			ticks[at]++
			if !unit.Fair(ticks, r.weights, r.bound()) {
				r.Fatalf("goes %d up to %d: %v by %v, with a grain of %d", from, to, ticks, r.weights, r.grain)
			}
		}
	}
}

// ticks is how many ticks each one has of all of r.
func (r run) ticks() []int {
	l := make([]int, len(r.ids))
	for _, id := range r.who {
		l[slices.Index(r.ids, id)]++
	}
	return l
}

func TestFairFromTheBeginning(t *testing.T) {
	next := row(163)
	for grain := 1; grain <= 8; grain++ {
		for n := 1; n <= 16; n++ {
			for range 3 {
				k := newWatched(t, grain)
				for id := range n {
					k.do(step{stepAdd, id, anyV(next, 0), anyWeight(next)})
				}
				k.goOn(120).checkFair()
			}
		}
	}
}

// Whatever was done to the queue ahead of that.
func TestFairBetweenDeeds(t *testing.T) {
	for grain := 1; grain <= 8; grain++ {
		k := newWatched(t, grain)
		next := row(uint64(1630 + grain))
		for range 60 {
			for range 1 + next(30) {
				k.do(drawn(next, 4+next(16), k.q.Floor(), shareKinds()))
			}
			if len(k.weights) > 0 {
				k.goOn(20 + next(100)).checkFair()
			}
		}
	}
}

// Over long runs all have what they weigh, up to the same bound.
func TestFairOverLongRuns(t *testing.T) {
	for grain := 1; grain <= 8; grain++ {
		for _, weights := range [][]int{{1, 2}, {1, 4096}, {4095, 4096, 1}, {7, 5, 3, 2, 1}, {3000, 1, 1, 1, 999, 17}, {1, 1, 1, 1}, {4093, 4094, 4095, 4096}} {
			k := newWatched(t, grain)
			for id, w := range weights {
				k.do(step{stepAdd, id, 0, w})
			}
			for range 10 {
				r := k.goOn(10000)
				if ticks := r.ticks(); !unit.Fair(ticks, r.weights, r.bound()) {
					t.Errorf("%v by %v, with a grain of %d", ticks, weights, grain)
				}
			}
		}
	}
}

// Weights 2 and 1, grain 1: of each 3 ticks 2 and 1.
func TestExample(t *testing.T) {
	k := newWatched(t, 1)
	k.do(step{stepAdd, 0, 0, 2})
	k.do(step{stepAdd, 1, 0, 1})
	for range 100 {
		if ticks := k.goOn(3).ticks(); !slices.Equal(ticks, []int{2, 1}) {
			t.Fatalf("of 3 ticks they have %v", ticks)
		}
	}
}

// heavy is a queue of n tasks, of which 0 weighs most and the others least; some begin at the floor, the others at the reach of the light ones.
func heavy(t *testing.T, grain, n int, ahead bool) *watched {
	k := newWatched(t, grain)
	first, others := uint64(most), uint64(0)
	if ahead {
		first, others = 0, most
	}
	k.do(step{stepAdd, 0, first, 4096})
	for id := 1; id < n; id++ {
		k.do(step{stepAdd, id, others, 1})
	}
	return k
}

// Just at the bound: who weighs nearly all has nothing of the grains of all others, or all ticks of as long as their grains cost.
// Then it is apart from its share by just one less than there are tasks, times the grain; the one more is never needed, but where costs leave something over.
func TestFairJustAtTheBound(t *testing.T) {
	for grain := 1; grain <= 8; grain++ {
		for n := 2; n <= 16; n++ {
			r := heavy(t, grain, n, false).goOn((n - 1) * grain)
			if ticks := r.ticks(); ticks[0] != 0 || slices.Max(ticks) != grain || unit.Worst(ticks, r.weights) != r.bound()-1 {
				t.Errorf("grain %d: the heavy one waits: %v", grain, ticks)
			}
			r.checkFair()
			r = heavy(t, grain, n, true).goOn(grain*4096 + 1)
			if ticks := r.ticks(); ticks[0] != grain*4096+1 || unit.Worst(ticks, r.weights) != r.bound()-1 {
				t.Errorf("grain %d: the heavy one runs: %v", grain, ticks)
			}
		}
	}
}

// Of a queue with no tasks nobody has a tick.
func TestGoesOfNone(t *testing.T) {
	k := newWatched(t, 2)
	r := k.goOn(10)
	for _, id := range r.who {
		if id != nobody {
			t.Errorf("a tick is %d's", id)
		}
	}
	if k.q.Floor() != 0 || k.q.Len() != 0 {
		t.Errorf("the floor is %d", k.q.Floor())
	}
}

// Shares hang on how weights stand to each other alone.
func TestSharesOfWeightsTimesOneNumber(t *testing.T) {
	for grain := 1; grain <= 8; grain++ {
		for _, by := range []int{2, 16, 256} {
			one, other := newWatched(t, grain), newWatched(t, grain)
			for id, w := range []int{1, 2, 4, 8, 16} {
				one.do(step{stepAdd, id, 0, w})
				other.do(step{stepAdd, id, 0, w * by})
			}
			if a, b := one.goOn(500).who, other.goOn(500).who; !slices.Equal(a, b) {
				t.Errorf("grain %d, weights times %d: %v and %v", grain, by, a, b)
			}
		}
	}
}
