package cores_test

import (
	"math"
	"slices"
	"testing"

	"forelock/api"
)

// row answers numbers below n, the same ones each time.
func row(state uint64) func(n int) int {
	return func(n int) int {
		state = state*6364136223846793005 + 1442695040888963407
		mixed := (state ^ state>>31) * 0x9E3779B97F4A7C15
		return int(mixed >> 1 % uint64(n))
	}
}

const (
	stepAdd = iota
	stepRemove
	stepMove
	stepBalance
	stepWeigh
	stepSettle
	stepLoads
	stepPick
	stepBack
	stepTick
	stepWeighThere
	stepSettleThere
	stepGo
	kinds
)

// step is a call, or a deed at a core's queue, and what is handed in.
type step struct {
	kind int
	core int
	id   int
	v    uint64
	w    int
	// there is a core that is, whatever core is.
	there int
}

// answer is what a call answers.
type answer struct {
	v   uint64
	err api.Errno
	way way
}

// do does a step to cores, and answers what that answered.
func (s step) do(c several) answer {
	var a answer
	q := c.at(s.there)
	switch s.kind {
	case stepAdd:
		a.v, a.err = c.Add(s.core, s.id, s.v, s.w)
	case stepRemove:
		a.v, a.way.ok = c.Remove(s.id)
	case stepMove:
		a.err = c.Move(s.id, s.core)
	case stepBalance:
		a.way = walk(c)
	case stepWeigh:
		a.way.ok = c.Weigh(s.id, s.w)
	case stepSettle:
		c.Settle()
	case stepLoads:
		spoil(c.Loads())
	case stepPick:
		a.way.id, a.way.ok = q.Pick()
	case stepBack:
		a.way.id, a.way.ok = q.Back()
	case stepTick:
		a.way.id, a.way.ok = q.Tick()
	case stepWeighThere:
		a.way.ok = q.Weigh(s.id, s.w)
	case stepSettleThere:
		q.Settle()
	case stepGo:
		a.way.id = goOn(q)
	}
	return a
}

// spoil changes a list.
func spoil(l []int) {
	for i := range l {
		l[i] = -1
	}
	slices.Reverse(l)
}

// goOn is a go; it answers who had the tick.
func goOn(q seat) int {
	if q.Due() {
		q.Back()
	}
	if _, _, ok := q.Current(); !ok {
		q.Pick()
	}
	id, _ := q.Tick()
	q.Settle()
	return id
}

// anyWeight is a weight of each kind: small, any that may be, near the greatest one, one that is brought.
func anyWeight(next func(n int) int) int {
	switch next(5) {
	case 0, 1:
		return 1 + next(4)
	case 2:
		return 1 + next(16)
	case 3:
		return 1 + next(4096)
	}
	l := []int{math.MinInt, -3, 0, 4095, 4096, 4097, math.MaxInt}
	return l[next(len(l))]
}

// anyV is a V about a floor, and what lies within a reach of it, or any.
func anyV(next func(n int) int, floor uint64) uint64 {
	switch next(5) {
	case 0:
		return 0
	case 1:
		return most
	case 2:
		return sum(floor, uint64(next(1<<43)))
	case 3:
		return floor + uint64(next(5)) - 2
	}
	return uint64(next(math.MaxInt))
}

// drawn is a step of a run over a few numbers.
func (x *twin) drawn(next func(n int) int, few int, of []int) step {
	s := step{kind: of[next(len(of))], core: next(x.p.Len()), id: next(few), w: anyWeight(next), there: next(x.p.Len())}
	s.v = anyV(next, x.p.cores[s.core].floor)
	if next(20) == 0 {
		s.core = wide()[next(len(wide()))]
	}
	if next(30) == 0 {
		s.id = wide()[next(len(wide()))]
	}
	return s
}

// allKinds is calls and deeds of all kinds, some more often than others.
func allKinds() []int {
	l := []int{stepAdd, stepAdd, stepAdd, stepMove, stepMove, stepBalance, stepPick, stepTick, stepTick, stepTick, stepGo, stepGo, stepWeigh}
	for kind := range kinds {
		l = append(l, kind)
	}
	return l
}

// follow does so many steps to both, which tell the same behind each; by Balance the sum of squares is less.
func (x *twin) follow(next func(n int) int, steps, few int, of []int) {
	x.Helper()
	for i := range steps {
		s := x.drawn(next, few, of)
		was := x.c.Loads()
		want := s.do(x.p)
		got := s.do(x.c)
		if got != want {
			x.Errorf("it answers %+v; want %+v", got, want)
		}
		if s.kind == stepBalance && got.way.ok && squares(x.c.Loads()) >= squares(was) {
			x.Errorf("Balance of %v: %v", was, x.c.Loads())
		}
		x.check()
		if x.Failed() {
			x.Fatalf("step %d: %+v, with %d cores, a grain of %d and %d numbers", i, s, x.p.Len(), x.p.grain, few)
		}
	}
}

func TestManyRuns(t *testing.T) {
	for n := 1; n <= 4; n++ {
		for grain := 1; grain <= 8; grain++ {
			for _, few := range []int{2, 5, 9, 17, 21} {
				x := newTwin(t, n, grain)
				x.follow(row(uint64(n*1000+grain*100+few)), 500, few, allKinds())
			}
		}
	}
}

// Many are there, few go: there is no room for long.
func TestManyRunsOfFullCores(t *testing.T) {
	of := append(allKinds(), stepAdd, stepAdd, stepAdd, stepAdd, stepAdd, stepAdd, stepMove, stepMove, stepBalance, stepGo, stepGo)
	for n := 1; n <= 4; n++ {
		for grain := 1; grain <= 8; grain++ {
			x := newTwin(t, n, grain)
			next := row(uint64(17*n + grain))
			full := 0
			for range 100 {
				x.follow(next, 10, 21, of)
				if len(x.p.tasks) == 16 {
					full++
				}
			}
			if full < 5 {
				t.Fatalf("with %d cores and a grain of %d there was room %d times of 100", n, grain, 100-full)
			}
		}
	}
}

// Where V's come to the greatest number, too.
func TestManyRunsAtTheEnd(t *testing.T) {
	for _, grain := range []int{1, 3, 8} {
		x := newTwin(t, 3, grain)
		x.rise(0, grain)
		x.rise(2, 2*grain)
		next := row(uint64(170 + grain))
		greatest := 0
		for range 300 {
			x.follow(next, 5, 12, allKinds())
			for _, p := range x.p.tasks {
				if p.v == most {
					greatest++
				}
			}
		}
		if greatest < 30 {
			t.Fatalf("with a grain of %d only %d V's were the greatest number", grain, greatest)
		}
	}
}

// Two are turned by turns, each as if the other one weren't there.
func TestManyRunsSideBySide(t *testing.T) {
	one, other := newTwin(t, 3, 2), newTwin(t, 3, 2)
	next := row(177)
	for range 200 {
		one.follow(next, 1+next(10), 9, allKinds())
		other.check()
		other.follow(next, 1+next(10), 9, allKinds())
		one.check()
	}
}

// At any time Balance comes to an end, and loses nobody.
func TestLevelInManyRuns(t *testing.T) {
	for n := 2; n <= 4; n++ {
		x := newTwin(t, n, 2)
		next := row(uint64(1720 + n))
		went := 0
		for range 200 {
			x.follow(next, 1+next(20), 21, allKinds())
			went += x.level()
			x.check()
		}
		if went < 100 {
			t.Errorf("with %d cores only %d went", n, went)
		}
	}
}

// The same calls answer the same, whenever they are made.
func TestOneAnswer(t *testing.T) {
	first, second := newTwin(t, 4, 3), newTwin(t, 4, 3)
	next := row(5)
	for range 2000 {
		s := first.drawn(next, 12, allKinds())
		if a, b := s.do(first.c), s.do(second.c); a != b {
			t.Fatalf("%+v: %+v, then %+v", s, a, b)
		}
		s.do(first.p)
		s.do(second.p)
	}
	first.check()
	second.check()
}
