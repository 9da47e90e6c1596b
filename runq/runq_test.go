package runq_test

import (
	"math"
	"testing"

	"forelock/api"
	"forelock/runq"
)

// weights are numbers that a weight may be, and what each is brought to.
func weights() [][2]int {
	return [][2]int{
		{math.MinInt, 1}, {math.MinInt + 1, 1}, {-4096, 1}, {-1, 1}, {0, 1}, {1, 1}, {2, 2}, {3, 3}, {7, 7}, {16, 16}, {17, 17}, {100, 100},
		{4095, 4095}, {4096, 4096}, {4097, 4096}, {8192, 4096}, {1<<32 + 1, 4096}, {math.MaxInt - 1, 4096}, {math.MaxInt, 4096},
	}
}

func TestNew(t *testing.T) {
	for _, c := range [][2]int{
		{math.MinInt, 1}, {math.MinInt + 1, 1}, {-8, 1}, {-1, 1}, {0, 1}, {1, 1}, {2, 2}, {3, 3}, {5, 5}, {7, 7}, {8, 8},
		{9, 8}, {10, 8}, {16, 8}, {1 << 32, 8}, {1<<32 + 3, 8}, {math.MaxInt - 1, 8}, {math.MaxInt, 8},
	} {
		grain := c[1]
		x := newTwin(t, c[0])
		x.counts(0, 0)
		x.settle(0)
		x.current(nobody, 0)
		// The grain is seen in the reach, in how long one may run on, and in what Weigh says of the current one.
		x.add(1, most, 1, uint64(grain)*coreUnit)
		x.add(0, 0, 1, 0)
		x.add(2, 0, 1, 0)
		x.pick(0)
		for range grain {
			x.due(false)
			x.tick(0)
		}
		x.due(true)
		x.back(0)
		x.pick(2)
		x.weigh(2, 2, true)
		x.current(2, grain)
		if t.Failed() {
			t.Fatalf("with a grain of %d", c[0])
		}
	}
}

// lifted is a queue of weights 1 and grain 2, with no tasks, and the floor at so many ticks.
func lifted(t *testing.T, ticks int) *twin {
	t.Helper()
	x := newTwin(t, 2)
	x.add(20, 0, 1, 0)
	x.pick(20)
	x.ticks(20, ticks)
	x.settle(uint64(ticks) * coreUnit)
	x.remove(20, uint64(ticks)*coreUnit, true)
	return x
}

func TestAddBringsV(t *testing.T) {
	const floor = 5 * coreUnit
	for _, c := range []struct {
		v    uint64
		w    int
		want uint64
	}{
		{0, 1, floor}, {1, 1, floor}, {floor - 1, 1, floor}, {floor, 1, floor}, {floor + 1, 1, floor + 1}, {floor + coreUnit, 1, floor + coreUnit},
		{floor + 2*coreUnit - 1, 1, floor + 2*coreUnit - 1}, {floor + 2*coreUnit, 1, floor + 2*coreUnit}, {floor + 2*coreUnit + 1, 1, floor + 2*coreUnit},
		{1 << 60, 1, floor + 2*coreUnit}, {most, 1, floor + 2*coreUnit}, {1 << 63, 1, floor + 2*coreUnit},
		// Heavier: the reach is less, without what is left over.
		{0, 4, floor}, {floor, 4, floor}, {floor + 1<<39 - 1, 4, floor + 1<<39 - 1}, {floor + 1<<39, 4, floor + 1<<39}, {floor + 1<<39 + 1, 4, floor + 1<<39},
		{most, 3, floor + 2*366503875925}, {floor + 2*366503875925, 3, floor + 2*366503875925}, {floor + 2*366503875925 - 1, 3, floor + 2*366503875925 - 1},
		{most, 4095, floor + 2*268501008}, {most, 4096, floor + 1<<29}, {most, 4097, floor + 1<<29}, {most, math.MaxInt, floor + 1<<29},
		{most, 0, floor + 2*coreUnit}, {most, -1, floor + 2*coreUnit}, {most, math.MinInt, floor + 2*coreUnit}, {0, math.MinInt, floor},
	} {
		x := lifted(t, 5)
		x.add(3, c.v, c.w, c.want)
		x.v(3, c.want)
		x.ready(3)
	}
}

func TestAddBringsWeight(t *testing.T) {
	for _, c := range weights() {
		x := newTwin(t, 1)
		x.add(0, 0, c[0], 0)
		x.counts(1, c[1])
		x.add(9, 0, 5, 0)
		x.counts(2, c[1]+5)
		x.pick(0)
		x.tick(0)
		x.v(0, coreUnit/uint64(c[1]))
	}
}

// A new one is ready, whoever is current, and however many ticks that has run.
func TestAddBesideCurrent(t *testing.T) {
	x := newTwin(t, 1)
	x.add(4, 0, 1, 0)
	x.pick(4)
	x.ticks(4, 3)
	x.due(false)
	x.add(2, 0, 1, 0)
	x.current(4, 3)
	x.ready(2)
	x.due(true)
	x.add(6, 0, 1, 0)
	x.add(1, 7, 1, 7)
	x.ready(2, 6, 1)
}

// Any number from 0 on may be a task's.
func TestAddOfAnyNumber(t *testing.T) {
	x := newTwin(t, 1)
	for i, id := range []int{math.MaxInt, 0, 1 << 32, math.MaxInt - 1, 63, 64, 16} {
		x.add(id, 0, 1, 0)
		x.counts(i+1, i+1)
	}
	x.ready(0, 16, 63, 64, 1<<32, math.MaxInt-1, math.MaxInt)
	x.refuse(math.MaxInt, 0, 1, api.ErrMet)
	x.refuse(1<<32, 0, 1, api.ErrMet)
}

// What stands first is told, where several hold.
func TestAddRefused(t *testing.T) {
	x := newTwin(t, 2)
	negative := func() {
		t.Helper()
		for _, id := range []int{-1, -2, -16, math.MinInt, math.MinInt + 1} {
			for _, v := range []uint64{0, 1, most} {
				x.refuse(id, v, 1, api.ErrArg)
			}
		}
	}
	negative()
	for id := range 16 {
		x.add(id, 0, 2, 0)
		x.refuse(id, 0, 2, api.ErrMet)
		negative()
	}
	x.counts(16, 32)
	x.refuse(16, 0, 1, api.ErrFull)
	x.refuse(17, most, math.MinInt, api.ErrFull)
	x.refuse(math.MaxInt, 0, 1, api.ErrFull)
	x.refuse(15, most, 1, api.ErrMet)
	// One who is current counts, and is met.
	x.pick(0)
	x.refuse(0, 0, 1, api.ErrMet)
	x.refuse(16, 0, 1, api.ErrFull)
	negative()
	x.remove(7, 0, true)
	x.refuse(0, 0, 1, api.ErrMet)
	x.add(16, 0, 1, 0)
	x.refuse(7, 0, 1, api.ErrFull)
	x.remove(0, 0, true)
	x.add(0, 0, 1, 0)
	x.refuse(7, 0, 1, api.ErrFull)
	x.counts(16, 14*2+1+1)
}

func TestRemove(t *testing.T) {
	x := newTwin(t, 2)
	for _, id := range []int{0, 1, -1, math.MinInt, math.MaxInt} {
		x.remove(id, 0, false)
	}
	x.add(0, 0, 1, 0)
	x.add(1, 9, 2, 9)
	x.add(2, 5, 3, 5)
	for _, id := range []int{3, -1, math.MinInt, math.MaxInt, 1 << 32} {
		x.remove(id, 0, false)
	}
	// A ready one.
	x.remove(2, 5, true)
	x.remove(2, 0, false)
	x.ready(0, 1)
	x.counts(2, 3)
	// The current one: none is, and what it has run is forgotten.
	x.pick(0)
	x.ticks(0, 2)
	x.remove(0, 2*coreUnit, true)
	x.current(nobody, 0)
	x.due(false)
	x.back(nobody)
	x.tick(nobody)
	x.remove(0, 0, false)
	x.counts(1, 2)
	x.ready(1)
	// A ready one, while another one is current.
	x.pick(1)
	x.add(5, 0, 1, 0)
	x.tick(1)
	x.remove(5, 0, true)
	x.current(1, 1)
	x.ready()
	x.remove(1, 9+1<<39, true)
	x.counts(0, 0)
	x.pick(nobody)
}

// Nothing of one who was removed is kept.
func TestAddAgain(t *testing.T) {
	x := newTwin(t, 2)
	x.add(3, 0, 4, 0)
	x.pick(3)
	x.ticks(3, 5)
	x.remove(3, 5<<38, true)
	x.add(3, 1, 1, 1)
	x.current(nobody, 0)
	x.counts(1, 1)
	x.pick(3)
	x.current(3, 0)
	x.tick(3)
	x.v(3, 1+coreUnit)
	x.remove(3, 1+coreUnit, true)
	// It comes back with the V with which it left, as far as it reaches.
	x.add(3, 1+coreUnit, 4, 1<<39)
	x.remove(3, 1<<39, true)
	x.add(3, 1<<39, 4, 1<<39)
	x.remove(3, 1<<39, true)
	x.settle(0)
}

func TestPick(t *testing.T) {
	x := newTwin(t, 1)
	x.pick(nobody)
	x.add(8, 7, 1, 7)
	x.add(5, 9, 1, 9)
	x.add(6, 7, 1, 7)
	x.add(9, 3, 1, 3)
	x.pick(9)
	x.current(9, 0)
	x.pick(nobody)
	x.current(9, 0)
	x.ready(6, 8, 5)
	x.remove(9, 3, true)
	// Of like V's the lesser number comes first.
	x.pick(6)
	x.tick(6)
	x.pick(nobody)
	x.current(6, 1)
	x.back(6)
	x.pick(8)
	x.current(8, 0)
	x.remove(8, 7, true)
	x.pick(5)
	x.remove(5, 9, true)
	x.pick(6)
	x.current(6, 0)
	x.pick(nobody)
	x.ready()
	x.remove(6, 7+coreUnit, true)
	x.pick(nobody)
}

// V counts ahead of the number.
func TestPickInOrder(t *testing.T) {
	x := newTwin(t, 8)
	order := []int{7, 15, 0, 3, 12, 1, 9, 14, 2, 11, 5, 8, 13, 4, 10, 6}
	for i, id := range order {
		x.add(id, uint64(i/3), 1, uint64(i/3))
	}
	x.ready(0, 7, 15, 1, 3, 12, 2, 9, 14, 5, 8, 11, 4, 10, 13, 6)
	for i, id := range []int{0, 7, 15, 1, 3, 12, 2, 9, 14, 5, 8, 11, 4, 10, 13, 6} {
		x.pick(id)
		x.remove(id, uint64(i/3), true)
	}
	x.pick(nobody)
}

func TestDue(t *testing.T) {
	for grain := 1; grain <= 8; grain++ {
		x := newTwin(t, grain)
		x.due(false)
		x.add(0, 0, 1, 0)
		x.due(false)
		x.pick(0)
		// Alone it may run on.
		for range grain + 3 {
			x.due(false)
			x.tick(0)
		}
		x.due(false)
		x.add(1, 0, 1, 0)
		x.due(true)
		x.back(0)
		x.due(false)
		x.pick(1)
		for range grain {
			x.due(false)
			x.tick(1)
		}
		// The grain is run, and the ready one has more, by 3 ticks; then less.
		x.due(false)
		x.ticks(1, 2)
		x.due(false)
		x.tick(1)
		x.due(false)
		x.tick(1)
		x.due(true)
		x.tick(1)
		x.due(true)
		x.remove(0, uint64(grain+3)*coreUnit, true)
		x.due(false)
	}
}

// Who has just the same V isn't ahead, nor is who has one more; who has one less is.
func TestDueByV(t *testing.T) {
	for _, c := range []struct {
		v    uint64
		want bool
	}{{0, true}, {coreUnit - 1, true}, {coreUnit, false}, {coreUnit + 1, false}, {2 * coreUnit, false}} {
		for _, other := range []int{3, 7} {
			x := newTwin(t, 2)
			x.add(5, 0, 2, 0)
			x.pick(5)
			x.ticks(5, 2)
			x.due(false)
			x.add(other, c.v, 1, c.v)
			x.due(c.want)
			x.current(5, 2)
		}
	}
}

// A lesser V is of no account, as long as the grain isn't run.
func TestDueByGrain(t *testing.T) {
	x := newTwin(t, 3)
	x.add(0, 3*coreUnit, 1, 3*coreUnit)
	x.pick(0)
	x.add(1, 0, 1, 0)
	for range 3 {
		x.due(false)
		x.tick(0)
	}
	x.due(true)
	// How often one is asked, and others come and go, changes nothing of it.
	x.remove(1, 0, true)
	x.due(false)
	x.add(2, 0, 1, 0)
	x.due(true)
	x.back(0)
	x.pick(2)
	x.current(2, 0)
	x.due(false)
}

func TestBack(t *testing.T) {
	x := newTwin(t, 2)
	x.back(nobody)
	x.add(4, 0, 1, 0)
	x.back(nobody)
	x.add(3, coreUnit, 1, coreUnit)
	x.pick(4)
	// Ahead of its grain, too, and with the V that it has.
	x.tick(4)
	x.back(4)
	x.back(nobody)
	x.current(nobody, 0)
	x.ready(3, 4)
	x.v(4, coreUnit)
	x.counts(2, 2)
	// From its next Pick on it has run nothing.
	x.remove(3, coreUnit, true)
	x.pick(4)
	x.current(4, 0)
	x.ticks(4, 5)
	x.back(4)
	x.pick(4)
	x.current(4, 0)
	x.v(4, 6*coreUnit)
}

func TestTick(t *testing.T) {
	x := newTwin(t, 2)
	x.tick(nobody)
	x.add(1, 5, 3, 5)
	x.tick(nobody)
	x.v(1, 5)
	x.pick(1)
	x.add(0, 1, 1, 1)
	for i := range 20 {
		x.tick(1)
		x.current(1, i+1)
		x.v(1, 5+uint64(i+1)*366503875925)
	}
	// The others have what they had, and the floor is where it was.
	x.v(0, 1)
	x.settle(1)
	x.back(1)
	x.tick(nobody)
	x.ready(0, 1)
}

func TestTickOfEachWeight(t *testing.T) {
	for w := 1; w <= 4096; w++ {
		q := runq.New(8)
		q.Add(2, 3, w)
		q.Pick()
		q.Tick()
		q.Tick()
		if v, ok := q.V(2); v != 3+2*(coreUnit/uint64(w)) || !ok {
			t.Errorf("of weight %d: %d, %t", w, v, ok)
		}
	}
}

func TestWeighCurrent(t *testing.T) {
	x := newTwin(t, 4)
	x.add(1, 0, 2, 0)
	x.pick(1)
	x.tick(1)
	// The same weight.
	x.weigh(1, 2, true)
	x.current(1, 1)
	x.counts(1, 2)
	// Another one: the grain is run, and each tick counts on from there.
	x.weigh(1, 3, true)
	x.current(1, 4)
	x.counts(1, 3)
	x.v(1, 1<<39)
	x.tick(1)
	x.current(1, 5)
	x.v(1, 1<<39+366503875925)
	x.weigh(1, 3, true)
	x.current(1, 5)
	// Also if it has run more than that.
	x.tick(1)
	x.weigh(1, 1, true)
	x.current(1, 4)
	x.due(false)
	x.add(0, 0, 1, 0)
	x.due(true)
	x.back(1)
	x.pick(0)
	x.current(0, 0)
	// Then another one is weighed, which isn't current.
	x.weigh(1, 9, true)
	x.current(0, 0)
	x.due(false)
	x.weigh(0, 9, true)
	x.current(0, 4)
	x.due(false)
}

// Weights are brought ahead of being held against each other.
func TestWeighBrings(t *testing.T) {
	for _, was := range weights() {
		for _, c := range weights() {
			x := newTwin(t, 8)
			x.add(6, 0, was[0], 0)
			x.add(7, 0, 1, 0)
			x.pick(6)
			x.tick(6)
			x.weigh(6, c[0], true)
			x.counts(2, c[1]+1)
			if c[1] == was[1] {
				x.current(6, 1)
			} else {
				x.current(6, 8)
			}
			x.weigh(7, c[0], true)
			x.counts(2, 2*c[1])
		}
	}
}

func TestWeighBringsV(t *testing.T) {
	const floor = 5 * coreUnit
	for _, c := range []struct {
		above   uint64
		w, to   int
		because string
		want    uint64
	}{
		{0, 1, 4, "at the floor", 0}, {1, 1, 4, "within", 1}, {1<<39 - 1, 1, 4, "just within", 1<<39 - 1}, {1 << 39, 1, 4, "at the reach", 1 << 39},
		{1<<39 + 1, 1, 4, "beyond", 1 << 39}, {2 * coreUnit, 1, 4, "far beyond", 1 << 39}, {2 * coreUnit, 1, 1, "the same weight", 2 * coreUnit},
		{2 * coreUnit, 1, 4096, "the heaviest", 1 << 29}, {2 * coreUnit, 1, math.MaxInt, "brought", 1 << 29},
		{1 << 29, 4096, 1, "lighter", 1 << 29}, {1 << 29, 4096, math.MinInt, "lighter, brought", 1 << 29},
	} {
		ready := lifted(t, 5)
		ready.add(1, floor+c.above, c.w, floor+c.above)
		ready.weigh(1, c.to, true)
		ready.v(1, floor+c.want)
		current := lifted(t, 5)
		current.add(1, floor+c.above, c.w, floor+c.above)
		current.pick(1)
		current.weigh(1, c.to, true)
		current.v(1, floor+c.want)
		if t.Failed() {
			t.Fatal(c.because)
		}
	}
}

// V is brought at the same weight, too: it may have been ticked out of its reach.
func TestWeighSameBringsV(t *testing.T) {
	x := newTwin(t, 2)
	x.add(1, 0, 1, 0)
	x.pick(1)
	x.ticks(1, 7)
	x.weigh(1, 1, true)
	x.v(1, 2*coreUnit)
	x.current(1, 7)
	x.ticks(1, 3)
	x.back(1)
	x.weigh(1, 1, true)
	x.v(1, 2*coreUnit)
	x.pick(1)
	x.ticks(1, 1)
	x.settle(3 * coreUnit)
	x.ticks(1, 1)
	x.weigh(1, 1, true)
	x.v(1, 4*coreUnit)
}

// Where a ready one stands hangs on its V alone.
func TestWeighReady(t *testing.T) {
	x := newTwin(t, 2)
	x.add(1, 0, 1, 0)
	x.add(2, coreUnit, 1, coreUnit)
	x.add(3, 2*coreUnit, 1, 2*coreUnit)
	x.ready(1, 2, 3)
	x.weigh(3, 4, true)
	x.v(3, 1<<39)
	x.ready(1, 3, 2)
	x.weigh(2, 4, true)
	x.v(2, 1<<39)
	x.ready(1, 2, 3)
	x.weigh(3, 1, true)
	x.ready(1, 2, 3)
	x.weigh(3, 4096, true)
	x.ready(1, 3, 2)
	x.counts(3, 1+4+4096)
	x.pick(1)
	x.remove(1, 0, true)
	x.pick(3)
	x.current(3, 0)
	x.v(3, 1<<29)
	x.tick(3)
	x.v(3, 1<<29+1<<28)
}

func TestWeighNone(t *testing.T) {
	x := newTwin(t, 2)
	others := func() {
		t.Helper()
		for _, id := range []int{0, 1, 2, 4, -1, math.MinInt, math.MaxInt, 1 << 32} {
			x.weigh(id, 3, false)
		}
	}
	others()
	x.weigh(3, 3, false)
	x.add(3, 0, 1, 0)
	others()
	x.pick(3)
	x.tick(3)
	others()
	x.current(3, 1)
	x.remove(3, coreUnit, true)
	others()
	x.weigh(3, 3, false)
	x.counts(0, 0)
}

func TestWeight(t *testing.T) {
	for _, c := range weights() {
		x := newTwin(t, 2)
		x.weight(3, 0, false)
		x.add(3, 0, c[0], 0)
		x.add(4, 0, 9, 0)
		x.weight(3, c[1], true)
		// Whether it is current, or ready, or has run: it weighs the same.
		x.pick(3)
		x.ticks(3, 3)
		x.weight(3, c[1], true)
		x.back(3)
		x.weight(3, c[1], true)
		x.weigh(4, c[0], true)
		x.weight(4, c[1], true)
		x.weigh(3, 5, true)
		x.weight(3, 5, true)
		x.pick(4)
		x.weigh(4, 6, true)
		x.weight(4, 6, true)
		x.remove(4, 0, true)
		for _, id := range []int{4, 0, -1, math.MinInt, math.MaxInt, 1<<32 + 3} {
			x.weight(id, 0, false)
		}
	}
}

func TestSettle(t *testing.T) {
	x := newTwin(t, 2)
	x.settle(0)
	x.add(1, 5, 1, 5)
	x.add(2, 3, 1, 3)
	if x.q.Floor() != 0 {
		t.Error("the floor was lifted by Add")
	}
	x.settle(3)
	x.settle(3)
	// The current one counts, be it the first one or not.
	x.pick(2)
	x.settle(3)
	x.tick(2)
	x.settle(5)
	x.pick(nobody)
	x.add(3, coreUnit+3, 1, coreUnit+3)
	x.remove(1, 5, true)
	x.settle(coreUnit + 3)
	x.remove(2, coreUnit+3, true)
	x.settle(coreUnit + 3)
	x.pick(3)
	x.ticks(3, 2)
	x.settle(3*coreUnit + 3)
	// With none there it stays.
	x.remove(3, 3*coreUnit+3, true)
	x.settle(3*coreUnit + 3)
	x.add(4, 0, 1, 3*coreUnit+3)
	x.settle(3*coreUnit + 3)
}

// The floor stays where it is till it is Settled, so that who comes between begins there.
func TestFloorWithoutSettle(t *testing.T) {
	x := newTwin(t, 1)
	x.add(1, 0, 1, 0)
	x.pick(1)
	x.ticks(1, 10)
	x.back(1)
	x.add(2, 0, 1, 0)
	x.remove(2, 0, true)
	x.weigh(1, 1, true)
	x.v(1, coreUnit)
	if x.q.Floor() != 0 {
		t.Errorf("the floor is %d", x.q.Floor())
	}
	x.settle(coreUnit)
}

func TestOfNil(t *testing.T) {
	var q *runq.Queue
	for _, id := range []int{math.MinInt, -1, 0, 1, math.MaxInt} {
		if v, err := q.Add(id, 5, 2); v != 0 || err != api.ErrArg {
			t.Errorf("Add: %d, error %d", v, err)
		}
		if v, ok := q.Remove(id); v != 0 || ok {
			t.Errorf("Remove: %d, %t", v, ok)
		}
		if v, ok := q.V(id); v != 0 || ok {
			t.Errorf("V: %d, %t", v, ok)
		}
		if w, ok := q.Weight(id); w != 0 || ok {
			t.Errorf("Weight: %d, %t", w, ok)
		}
		if q.Weigh(id, 3) {
			t.Error("Weigh: true")
		}
	}
	for name, call := range map[string]func() (int, bool){"Pick": q.Pick, "Back": q.Back, "Tick": q.Tick} {
		if id, ok := call(); id != nobody || ok {
			t.Errorf("%s: %d, %t", name, id, ok)
		}
	}
	q.Settle()
	if s := stateOf(q); s != (state{current: nobody}) {
		t.Errorf("it tells %+v", s)
	}
	if loop := q.Ready(); loop == nil || len(reached(loop, 0)) != 0 {
		t.Error("somebody is ready, or there is no loop")
	}
}

// A queue that New didn't make may be told of, though it takes nobody.
func TestOfZero(t *testing.T) {
	var q runq.Queue
	if v, err := q.Add(1, 5, 2); v != 0 || err == api.OK {
		t.Errorf("Add: %d, error %d", v, err)
	}
	q.Settle()
	if id, ok := q.Pick(); id != nobody || ok || q.Weigh(1, 1) {
		t.Error("it has somebody")
	}
	if _, ok := q.Remove(1); ok {
		t.Error("somebody was removed")
	}
	if w, ok := q.Weight(1); w != 0 || ok {
		t.Errorf("Weight: %d, %t", w, ok)
	}
	if s := stateOf(&q); s != (state{current: nobody}) {
		t.Errorf("it tells %+v", s)
	}
}

// risen is a queue of that grain with no tasks, and the floor at 2^64 less this many ticks of weight 1, each of 2^40.
func risen(t *testing.T, grain, below int) *twin {
	t.Helper()
	q := runq.New(grain)
	q.Add(0, 0, 1)
	q.Pick()
	for range 1<<24 - below {
		q.Tick()
	}
	q.Settle()
	q.Remove(0)
	x := &twin{t, q, newPlain(grain)}
	x.p.floor = -uint64(below) * coreUnit
	checkLike(t, x.q, x.p)
	return x
}

// V's that would be more than the greatest number are that, and stay there.
func TestAtTheGreatestV(t *testing.T) {
	x := risen(t, 8, 3)
	const floor = most - 3*coreUnit + 1
	x.add(0, 0, 1, floor)
	x.add(1, most, 1, most)
	x.add(2, most, 2, most)
	x.add(3, most, 4, floor+2*coreUnit)
	x.remove(3, floor+2*coreUnit, true)
	x.pick(0)
	x.ticks(0, 2)
	x.v(0, most-coreUnit+1)
	x.settle(most - coreUnit + 1)
	x.tick(0)
	x.v(0, most)
	x.tick(0)
	x.v(0, most)
	x.current(0, 4)
	x.ticks(0, 4)
	x.due(false)
	x.add(4, 0, 4096, most-coreUnit+1)
	x.due(true)
	x.remove(4, most-coreUnit+1, true)
	x.settle(most)
	x.settle(most)
	x.weigh(0, 4096, true)
	x.weigh(1, 4096, true)
	x.add(4, 0, 1, most)
	x.add(5, most-1, 1, most)
	x.add(6, most, 1, most)
	x.ready(1, 2, 4, 5, 6)
	x.back(0)
	x.ready(0, 1, 2, 4, 5, 6)
	x.pick(0)
	x.tick(0)
	x.v(0, most)
}

// Of what is asked of one queue the other one tells nothing.
func TestTwoQueues(t *testing.T) {
	one, other := newTwin(t, 2), newTwin(t, 2)
	for _, x := range []*twin{one, other} {
		x.add(1, 0, 1, 0)
		x.add(2, 7, 1, 7)
		x.pick(1)
		x.tick(1)
	}
	one.tick(1)
	one.due(true)
	other.due(false)
	one.back(1)
	one.settle(7)
	one.weigh(2, 5, true)
	one.add(3, 0, 1, 7)
	one.remove(1, 2*coreUnit, true)
	one.pick(2)
	checkLike(t, other.q, other.p)
	other.current(1, 1)
	other.counts(2, 2)
	other.v(1, coreUnit)
	other.settle(7)
	other.ready(2)
	other.remove(2, 7, true)
	one.current(2, 0)
	one.ready(3)
}
